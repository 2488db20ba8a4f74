import Derived.Test.YtfibapfehgglhaaGreatDoorSgA
import Derived.Deep.Slices
import Derived.OpenShut
/-
  A machine through its acts; texts of the law's own.
-/
namespace Go.Proofs.YtfibapfehgglhaaGreatDoor
open Go.RowKit Go.Maps
theorem row_stays {W W2 : World} {base e k n : Nat} {v : Value} {xs : List Value} (h : W.ownsRow base e k v n xs) (hs : Stays W W2) (he : e ≠ 51 ∧ e ≠ 84 ∧ e ≠ 298 ∧ e ≠ 242) : W2.ownsRow base e k v n xs := by
  refine ⟨h.1, ?_⟩
  rcases h.2 with h0 | ⟨g, cap, cur, rfl, hb, hc, hx⟩
  · exact Or.inl h0
  · exact Or.inr ⟨g, cap, cur, rfl, hb, hs _ _ _ _ hc he.1 he.2.1 he.2.2.1 he.2.2.2, hx⟩
/-- a row of texts of the law's own -/
structure Txs (w : World) (b : Nat) (v : Value) (l : List (List UInt8)) : Prop where
  own : w.ownsRow b 9 1 v l.length (rcells 1 (tx l) l.length)
theorem Txs.stays {w w2 : World} {b : Nat} {v : Value} {l : List (List UInt8)} (h : Txs w b v l) (hs : Stays w w2) : Txs w2 b v l := ⟨row_stays h.own hs (by decide)⟩
theorem Txs.far {w w2 : World} {b : Nat} {v : Value} {l : List (List UInt8)} (h : Txs w b v l) (hb : Below w.heap.size w w2) : Txs w2 b v l := ⟨row_far h.own hb⟩
theorem Txs.from_ {w : World} {b b2 : Nat} {v : Value} {l : List (List UInt8)} (h : Txs w b v l) (hb : b2 ≤ b) : Txs w b2 v l := ⟨own_from h.own hb⟩
theorem Txs.row {w : World} {b : Nat} {A : Option Addr} {n c : Nat} {l : List (List UInt8)} (h : Txs w b (.slice A n c) l) : Row 1 (tx l) w A l.length := by
  obtain ⟨A2, c2, e, -, -, -, h2⟩ := own_row h.own
  cases e
  exact h2
theorem Txs.slice {w : World} {b : Nat} {v : Value} {l : List (List UInt8)} (h : Txs w b v l) : ∃ A c, v = .slice A l.length c := by
  obtain ⟨A, c, e, -⟩ := own_row h.own
  exact ⟨A, c, e⟩
/-- what a machine does leaves blocks of other types as they were -/
structure Moves (w w2 : World) : Prop where
  st : Stays w w2
  sz : w.heap.size ≤ w2.heap.size
/-- a machine of the law's -/
structure Runs (W : World) (base fb B N : Nat) (S : Sf.St) (wr : World) : Prop where
  fs : FsAt wr base fb S
  ok : Sf.StOk B N S
  bel : Below W.heap.size W wr
  lo : W.heap.size ≤ base
  hi : base ≤ wr.heap.size
theorem Runs.far {W : World} {base fb B N : Nat} {S : Sf.St} {wr w2 : World} (h : Runs W base fb B N S wr) (hb : Below wr.heap.size wr w2) : Runs W base fb B N S w2 := ⟨h.fs.far hb, h.ok, below_step h.bel hb, h.lo, Nat.le_trans h.hi hb.size⟩
theorem Runs.left {W : World} {base fb B N B2 N2 : Nat} {S S2 : Sf.St} {wr w2 : World} (h : Runs W base fb B N S wr) (hl : Left wr base fb S2 w2) (ho : Sf.StOk B2 N2 S2) : Runs W base fb B2 N2 S2 w2 := ⟨hl.fs, ho, h.bel.trans (hl.bel.mono h.lo), h.lo, Nat.le_trans h.hi hl.bel.size⟩
theorem Runs.keys {W : World} {base fb B N : Nat} {S : Sf.St} {wr : World} (h : Runs W base fb B N S wr) : Sf.KS S.names := by
  obtain ⟨mb, sb, cv, cvs, hf⟩ := h.fs
  exact Sf.keys_of hf.nam
theorem Runs.mono {W : World} {base fb B N B2 N2 : Nat} {S : Sf.St} {wr : World} (h : Runs W base fb B N S wr) (hB : B ≤ B2) (hN : N ≤ N2) : Runs W base fb B2 N2 S wr := ⟨h.fs, h.ok.mono hB hN, h.bel, h.lo, h.hi⟩
theorem Runs.keep {W : World} {base fb B N : Nat} {S : Sf.St} {wr : World} (h : Runs W base fb B N S wr) {A : Option Addr} {kc : Nat} {k : Sf.Keep} (hk : KeepIn W A kc k) : ∀ U, Below base wr U → Stays wr U → KeepIn U A kc k := fun _ hU _ => hk.later (h.bel.trans (hU.mono h.lo))
theorem Runs.list {W : World} {base fb B N : Nat} {S : Sf.St} {wr : World} (h : Runs W base fb B N S wr) :
    Calls Tryz.prog 57 #[.pointer (some ⟨fb, 0, none⟩)] wr fun e w' => ∃ A c, e = .returned (.slice A (Sf.list S.names).length c) ∧ Txs w' wr.heap.size (.slice A (Sf.list S.names).length c) (Sf.list S.names) ∧ Below wr.heap.size wr w' :=
  (List_any h.fs h.ok.nice).mono fun _ _ ⟨v, he, hr, hb⟩ => by
    rw [rcells_enc] at hr
    have ht : Txs _ wr.heap.size v (Sf.list S.names) := ⟨hr⟩
    obtain ⟨A, c, e⟩ := ht.slice
    subst e
    exact ⟨A, c, he, ht, hb⟩
theorem Runs.few {W : World} {base fb B N : Nat} {S : Sf.St} {wr : World} (h : Runs W base fb B N S wr) : (Sf.list S.names).length ≤ 64 := by
  rw [Sf.list_length]
  exact h.ok.nice.few
theorem Runs.read {W : World} {base fb B N : Nat} {S : Sf.St} {wr : World} (h : Runs W base fb B N S wr) (s : ByteArray) (hs : s.size ≤ maxLen) :
    Calls Tryz.prog 10 #[.pointer (some ⟨fb, 0, none⟩), .string s] wr fun e w' => e = .returned (.tuple #[.string (S.read s).1, .int .i64 (S.read s).2]) ∧ Below wr.heap.size wr w' := Read_any h.fs h.ok s hs
theorem Runs.size {W : World} {base fb B N : Nat} {S : Sf.St} {wr : World} (h : Runs W base fb B N S wr) (hB : B ≤ 1000000000) :
    Calls Tryz.prog 95 #[.pointer (some ⟨fb, 0, none⟩)] wr fun e w' => e = .returned (.int .i64 ((S.total : Nat) : Int)) ∧ Below wr.heap.size wr w' := Size_any h.fs h.ok hB
theorem runs_new {W w : World} (hb : Below W.heap.size W w) (room : Int) (hr : room ≤ 9223372036854775807) :
    Calls Tryz.prog 7 #[.int .i64 room] w fun e w' => ∃ fb, e = .returned (.pointer (some ⟨fb, 0, none⟩)) ∧ Runs W w.heap.size fb 0 0 (Sf.St.new room) w' ∧ Below w.heap.size w w' :=
  (New_any room w).mono fun _ _ ⟨fb, he, hf, hb2⟩ => ⟨fb, he, ⟨hf, Sf.new_ok 0 0 room hr, below_step hb hb2, hb.size, hb2.size⟩, hb2⟩
/-! the document's example -/
namespace Sf
def xN : ByteArray := ⟨#[120]⟩
def abc : ByteArray := ⟨#[97, 98, 99]⟩
theorem create_yes {S : St} {s : ByteArray} (y : Nat) (hd : S.dead = false) (hs : isName s = true) (hl : look S.names s = none) (hz : Go.Maps.size S.names < 64) (hf : S.fuse ≠ 0) : S.create s y = ((S.file y file0).tick.naming (.cre s y), 0) := by
  unfold St.create
  rw [hd, hl, hs]
  rw [if_neg (by decide), if_neg (by decide), if_neg (by decide), if_neg (by omega)]
  unfold St.nameDo
  rw [if_neg (show ¬ (S.file y file0).fuse = 0 from hf)]
theorem append_yes {S : St} {s b : ByteArray} {x : Nat} (hd : S.dead = false) (hl : look S.names s = some x) (hr : (S.total : Int) + (b.size : Int) ≤ S.room) (hf : S.fuse ≠ 0) : S.append s b = (S.tick.file x ((S.F x).change (.app b)), 0) := by
  unfold St.append
  rw [hd, hl]
  rw [if_neg (by decide)]
  show (if _ then _ else _) = _
  rw [if_neg (by omega)]
  unfold St.fileDo
  rw [if_neg hf]
theorem sync_yes {S : St} {s : ByteArray} {x : Nat} (hd : S.dead = false) (hl : look S.names s = some x) (hf : S.fuse ≠ 0) : S.sync s = (S.tick.file x (whole (S.F x).bytes), 0) := by
  unfold St.sync
  rw [hd, hl]
  rw [if_neg (by decide)]
  show S.fileDo x _ = _
  unfold St.fileDo
  rw [if_neg hf]
theorem dir_yes {S : St} (hd : S.dead = false) (hf : S.fuse ≠ 0) : S.dirDo = (S.tick.dir, 0) := by
  unfold St.dirDo
  rw [hd, if_neg (by decide), if_neg hf]
/-- one file -/
def one (y : Nat) : D := (DataW.map [] : D).put (key xN) (hd y)
theorem one_look (y : Nat) : look (one y) xN = some y := look_put_same isMap_empty xN y
theorem one_keys (y : Nat) : strKeys (one y) = [[120]] := rfl
theorem one_list (y : Nat) : list (one y) = [[120]] := by unfold list; rw [one_keys]; simp
theorem one_total {S : St} {y : Nat} (h : S.names = one y) : S.total = (S.F y).bytes.size := by
  unfold St.total tot
  rw [h, one_keys]
  have e : bs [120] = xN := rfl
  simp [szOf, e, one_look]
def keep0 : Keep := ⟨fun _ => 0, 0⟩
def keep3 : Keep := ⟨fun i => if i = 0 then 1 else if i = 1 then 0 else 2, 3⟩
def w1 (y : Nat) : St := ((St.new 100).create xN y).1
def w2 (y : Nat) : St := ((w1 y).append xN abc).1
def w3 (y : Nat) : St := ((w2 y).sync xN).1
def w4 (y : Nat) : St := (w3 y).crash keep0
def w5 (y z : Nat) : St := ((w4 y).create xN z).1
def w6 (y z : Nat) : St := (w5 y z).dirDo.1
def w7 (y z : Nat) : St := ((w6 y z).append xN abc).1
def w8 (y z : Nat) : St := (w7 y z).crash keep3
theorem ex1 (y : Nat) : (St.new 100).create xN y = (((St.new 100).file y file0).tick.naming (.cre xN y), 0) := create_yes y rfl (by decide) (look_empty _) (by decide) (by decide)
theorem w1_eq (y : Nat) : w1 y = ((St.new 100).file y file0).tick.naming (.cre xN y) := by unfold w1; rw [ex1]
theorem w1_names (y : Nat) : (w1 y).names = one y := by rw [w1_eq]; rfl
theorem w1_F (y : Nat) : (w1 y).F y = file0 := by rw [w1_eq]; exact file_same
theorem ex2 (y : Nat) : (w1 y).append xN abc = ((w1 y).tick.file y (((w1 y).F y).change (.app abc)), 0) := append_yes (by rw [w1_eq]; rfl) (by rw [w1_names]; exact one_look y) (by rw [one_total (w1_names y), w1_F, w1_eq]; show ((0 : Nat) : Int) + ((3 : Nat) : Int) ≤ max 100 0; decide) (by rw [w1_eq]; show (if (0 : Int) < -1 then (-1 : Int) - 1 else -1) ≠ 0; decide)
theorem w2_eq (y : Nat) : w2 y = (w1 y).tick.file y (((w1 y).F y).change (.app abc)) := by unfold w2; rw [ex2]
theorem w2_names (y : Nat) : (w2 y).names = one y := by rw [w2_eq]; exact w1_names y
theorem w2_fuse (y : Nat) : (w2 y).fuse = -1 := by rw [w2_eq, w1_eq]; rfl
theorem ex3 (y : Nat) : (w2 y).sync xN = ((w2 y).tick.file y (whole ((w2 y).F y).bytes), 0) := sync_yes (by rw [w2_eq, w1_eq]; rfl) (by rw [w2_names]; exact one_look y) (by rw [w2_fuse]; decide)
theorem w2_bytes (y : Nat) : ((w2 y).F y).bytes = abc := by
  rw [w2_eq, file_same, w1_F]
  rfl
theorem w3_eq (y : Nat) : w3 y = (w2 y).tick.file y (whole ((w2 y).F y).bytes) := by unfold w3; rw [ex3]
theorem ex4 (y : Nat) : (w3 y).total = 3 := by
  rw [one_total (y := y) (by rw [w3_eq]; exact w2_names y), w3_eq, file_same, w2_bytes]
  rfl
theorem w3_synced (y : Nat) : (w3 y).synced = .map [] ∧ (w3 y).room = 100 ∧ (w3 y).steps = 3 := by
  rw [w3_eq, w2_eq, w1_eq]
  exact ⟨rfl, rfl, rfl⟩
theorem w4_names (y : Nat) : (w4 y).names = .map [] := by
  show Sf.names (w3 y).synced ((w3 y).chg.take (share keep0 0 (w3 y).chg.length)) = _
  rw [show share keep0 0 (w3 y).chg.length = 0 from rfl, (w3_synced y).1]
  rfl
theorem w4_synced (y : Nat) : (w4 y).synced = .map [] := w4_names y
theorem ex5 (y : Nat) : ((w4 y).read xN).2 = 11 := by rw [read_no rfl (by rw [w4_names]; exact look_empty _)]
theorem ex6 (y z : Nat) : (w4 y).create xN z = (((w4 y).file z file0).tick.naming (.cre xN z), 0) := create_yes z rfl (by decide) (by rw [w4_names]; exact look_empty _) (by rw [w4_names]; decide) (by show (-1 : Int) ≠ 0; decide)
theorem w5_eq (y z : Nat) : w5 y z = ((w4 y).file z file0).tick.naming (.cre xN z) := by unfold w5; rw [ex6]
theorem w5_names (y z : Nat) : (w5 y z).names = one z := by
  rw [w5_eq]
  show (Nm.cre xN z).app (w4 y).names = _
  rw [w4_names]
  rfl
theorem w5_F (y z : Nat) : (w5 y z).F z = file0 := by rw [w5_eq]; exact file_same
theorem w5_fuse (y z : Nat) : (w5 y z).fuse = -1 ∧ (w5 y z).dead = false ∧ (w5 y z).room = 100 ∧ (w5 y z).steps = 4 := by
  rw [w5_eq]
  have h := w3_synced y
  exact ⟨rfl, rfl, h.2.1, by show (w3 y).steps + 1 = 4; rw [h.2.2]; rfl⟩
theorem ex7 (y z : Nat) : (w5 y z).dirDo = ((w5 y z).tick.dir, 0) := dir_yes (w5_fuse y z).2.1 (by rw [(w5_fuse y z).1]; decide)
theorem w6_eq (y z : Nat) : w6 y z = (w5 y z).tick.dir := by unfold w6; rw [ex7]
theorem w6_all (y z : Nat) : (w6 y z).names = one z ∧ (w6 y z).synced = one z ∧ (w6 y z).chg = [] ∧ (w6 y z).fuse = -1 ∧ (w6 y z).dead = false ∧ (w6 y z).room = 100 ∧ (w6 y z).steps = 5 ∧ (w6 y z).F z = file0 := by
  obtain ⟨h1, h2, h3, h4⟩ := w5_fuse y z
  rw [w6_eq]
  refine ⟨w5_names y z, w5_names y z, rfl, ?_, h2, h3, ?_, w5_F y z⟩
  · show (if 0 < (w5 y z).fuse then (w5 y z).fuse - 1 else (w5 y z).fuse) = -1
    rw [h1]; rfl
  · show (w5 y z).steps + 1 = 5
    rw [h4]; rfl
theorem ex8 (y z : Nat) : (w6 y z).append xN abc = ((w6 y z).tick.file z (((w6 y z).F z).change (.app abc)), 0) := by
  obtain ⟨h1, h2, h3, h4, h5, h6, h7, h8⟩ := w6_all y z
  exact append_yes h5 (by rw [h1]; exact one_look z) (by rw [one_total h1, h8, h6]; decide) (by rw [h4]; decide)
theorem w7_all (y z : Nat) : (w7 y z).names = one z ∧ (w7 y z).synced = one z ∧ (w7 y z).chg = [] ∧ (w7 y z).steps = 6 ∧ (w7 y z).F z = ⟨abc, ⟨#[]⟩, [.app abc]⟩ := by
  obtain ⟨h1, h2, h3, h4, h5, h6, h7, h8⟩ := w6_all y z
  unfold w7
  rw [ex8]
  refine ⟨h1, h2, h3, ?_, ?_⟩
  · show (w6 y z).steps + 1 = 6
    rw [h7]; rfl
  · show ((w6 y z).tick.file z (((w6 y z).F z).change (.app abc))).F z = _
    rw [file_same, h8]
    rfl
theorem w8_all (y z : Nat) : (w8 y z).names = one z ∧ (w8 y z).steps = 6 ∧ ((w8 y z).F z).bytes = ⟨#[97, 98]⟩ := by
  obtain ⟨h1, h2, h3, h4, h5⟩ := w7_all y z
  have e : (w7 y z).now keep3 = one z := by
    unfold St.now
    rw [h3, h2]
    rfl
  refine ⟨e, h4, ?_⟩
  show ((crashTo keep3 ((w7 y z).now keep3) (list ((w7 y z).now keep3)) (w7 y z) (list ((w7 y z).now keep3)).length).F z).bytes = _
  rw [e, one_list]
  show ((crashTo keep3 (one z) [[120]] (w7 y z) 1).F z).bytes = _
  unfold crashTo
  rw [show bs ([[120]].getD 0 ([] : List UInt8)) = xN from rfl, one_look]
  show (((crashTo keep3 (one z) [[120]] (w7 y z) 0).file z (whole (((crashTo keep3 (one z) [[120]] (w7 y z) 0).F z).survive keep3 1))).F z).bytes = _
  rw [file_same]
  show ((w7 y z).F z).survive keep3 1 = _
  rw [h5]
  decide +kernel
theorem ex9 (y z : Nat) : (w8 y z).read xN = (⟨#[97, 98]⟩, 0) := by
  obtain ⟨h1, h2, h3⟩ := w8_all y z
  rw [read_of rfl (by rw [h1]; exact one_look z), h3]
end Sf
end Go.Proofs.YtfibapfehgglhaaGreatDoor
/-
  Calls of a machine of the law's; the fixed example.
-/
namespace Go.Proofs.YtfibapfehgglhaaGreatDoor
open Go.RowKit Go.Maps
section
variable {W : World} {base fb B N : Nat} {S : Sf.St} {wr : World}
theorem Runs.create (h : Runs W base fb B N S wr) (hN : N ≤ 999) (s : ByteArray) (hs : s.size ≤ maxLen) :
    Calls Tryz.prog 83 #[.pointer (some ⟨fb, 0, none⟩), .string s] wr fun e w' => ∃ y, ¬ Sf.live S.synced S.chg y ∧ e = .returned (.int .i64 (S.create s y).2) ∧ Runs W base fb B (N + 1) (S.create s y).1 w' ∧ Moves wr w' :=
  (Create_any h.fs h.hi h.ok (by omega) s hs).mono fun _ _ ⟨hy, he, hl⟩ => ⟨_, hy, he, h.left hl (h.ok.create s hy), ⟨hl.st, hl.bel.size⟩⟩
theorem Runs.append (h : Runs W base fb B N S wr) (hN : N ≤ 999) (hB : B ≤ 100000000) (s : ByteArray) (hs : s.size ≤ maxLen) (b : ByteArray) (hb : b.size ≤ 300) :
    Calls Tryz.prog 85 #[.pointer (some ⟨fb, 0, none⟩), .string s, .string b] wr fun e w' => e = .returned (.int .i64 (S.append s b).2) ∧ Runs W base fb (B + 300) (N + 1) (S.append s b).1 w' ∧ Moves wr w' :=
  (Append_any h.fs h.hi h.ok hN hB s hs b hb).mono fun _ _ ⟨he, hl⟩ => ⟨he, h.left hl (h.ok.append s b hb), ⟨hl.st, hl.bel.size⟩⟩
theorem Runs.cut (h : Runs W base fb B N S wr) (hN : N ≤ 999) (hB : B ≤ 1000000000) (s : ByteArray) (hs : s.size ≤ maxLen) (n : Int) :
    Calls Tryz.prog 47 #[.pointer (some ⟨fb, 0, none⟩), .string s, .int .i64 n] wr fun e w' => e = .returned (.int .i64 (S.cut s n).2) ∧ Runs W base fb B (N + 1) (S.cut s n).1 w' ∧ Moves wr w' :=
  (Cut_any h.fs h.hi h.ok hN hB s hs n).mono fun _ _ ⟨he, hl⟩ => ⟨he, h.left hl (h.ok.cut s n), ⟨hl.st, hl.bel.size⟩⟩
theorem Runs.sync (h : Runs W base fb B N S wr) (hN : N ≤ 999) (s : ByteArray) (hs : s.size ≤ maxLen) :
    Calls Tryz.prog 49 #[.pointer (some ⟨fb, 0, none⟩), .string s] wr fun e w' => e = .returned (.int .i64 (S.sync s).2) ∧ Runs W base fb B (N + 1) (S.sync s).1 w' ∧ Moves wr w' :=
  (Sync_any h.fs h.hi h.ok hN s hs).mono fun _ _ ⟨he, hl⟩ => ⟨he, h.left hl (h.ok.sync s), ⟨hl.st, hl.bel.size⟩⟩
theorem Runs.dir (h : Runs W base fb B N S wr) (hN : N ≤ 999) :
    Calls Tryz.prog 89 #[.pointer (some ⟨fb, 0, none⟩)] wr fun e w' => e = .returned (.int .i64 S.dirDo.2) ∧ Runs W base fb B (N + 1) S.dirDo.1 w' ∧ Moves wr w' :=
  (SyncDir_any h.fs h.hi h.ok hN).mono fun _ _ ⟨he, hl⟩ => ⟨he, h.left hl h.ok.dirDo, ⟨hl.st, hl.bel.size⟩⟩
theorem Runs.rename (h : Runs W base fb B N S wr) (hN : N ≤ 999) (a b : ByteArray) (ha : a.size ≤ maxLen) (hb : b.size ≤ maxLen) :
    Calls Tryz.prog 88 #[.pointer (some ⟨fb, 0, none⟩), .string a, .string b] wr fun e w' => e = .returned (.int .i64 (S.rename a b).2) ∧ Runs W base fb B (N + 1) (S.rename a b).1 w' ∧ Moves wr w' :=
  (Rename_any h.fs h.hi h.ok (by omega) a b ha hb).mono fun _ _ ⟨he, hl⟩ => ⟨he, h.left hl (h.ok.rename a b), ⟨hl.st, hl.bel.size⟩⟩
theorem Runs.remove (h : Runs W base fb B N S wr) (hN : N ≤ 999) (a : ByteArray) (ha : a.size ≤ maxLen) :
    Calls Tryz.prog 79 #[.pointer (some ⟨fb, 0, none⟩), .string a] wr fun e w' => e = .returned (.int .i64 (S.remove a).2) ∧ Runs W base fb B (N + 1) (S.remove a).1 w' ∧ Moves wr w' :=
  (Remove_any h.fs h.hi h.ok (by omega) a ha).mono fun _ _ ⟨he, hl⟩ => ⟨he, h.left hl (h.ok.remove a), ⟨hl.st, hl.bel.size⟩⟩
theorem keep_none (U : World) : KeepIn U none 0 Sf.keep0 := ⟨fun h => absurd h (Nat.lt_irrefl 0), Nat.zero_le _, fun i hi => absurd hi (Nat.not_lt_zero i)⟩
theorem Stays.block {W W2 : World} {g : Nat} {cs : Array Value} {T : TypeId} {fr : Nat × Nat} (hs : Stays W W2) (hg : W.heap[g]? = some (.cells cs T fr)) (hT : T ≠ 51 ∧ T ≠ 84 ∧ T ≠ 298 ∧ T ≠ 242) : W2.heap[g]? = some (.cells cs T fr) := hs _ _ _ _ hg hT.1 hT.2.1 hT.2.2.1 hT.2.2.2
theorem keep_three {U : World} {g : Nat} {fr : Nat × Nat} (h : U.heap[g]? = some (.cells #[.int .i64 1, .int .i64 0, .int .i64 2] 3 fr)) : KeepIn U (some ⟨g, 0, none⟩) 3 Sf.keep3 := by
  refine ⟨fun _ => ⟨⟨g, 0, none⟩, rfl, (Array.getElem?_eq_some_iff.1 h).1, fun i hi j hj => ?_⟩, by decide, fun i hi => ?_⟩
  · obtain rfl : j = 0 := by omega
    have h3 : i < 3 := hi
    rw [Addr.add_lit, Nat.zero_add, Nat.mul_one, Nat.add_zero]
    rcases (show i = 0 ∨ i = 1 ∨ i = 2 by omega) with rfl | rfl | rfl
    · exact cell_of_row _ _ _ _ _ _ h
    · exact cell_of_row _ _ _ _ _ _ h
    · exact cell_of_row _ _ _ _ _ _ h
  · have h3 : i < 3 := hi
    rcases (show i = 0 ∨ i = 1 ∨ i = 2 by omega) with rfl | rfl | rfl <;> decide
end
end Go.Proofs.YtfibapfehgglhaaGreatDoor
/-
  Acts, numbers, and texts that came in.
-/
namespace Go.Proofs.YtfibapfehgglhaaGreatDoor
open Go.RowKit
open Go.ChangeShapes Go.WideShapes Go.Deep
theorem i64_bdk {n : Int} (h : (Lit.int .i64 n).wf = true) : -9223372036854775808 ≤ n ∧ n ≤ 9223372036854775807 := by
  unfold Lit.wf at h
  rw [Bool.and_eq_true] at h
  have h1 := of_decide_eq_true h.1
  have h2 := of_decide_eq_true h.2
  have e1 : IntKind.i64.min = -9223372036854775808 := by decide
  have e2 : IntKind.i64.max = 9223372036854775807 := by decide
  rw [e1] at h1
  rw [e2] at h2
  exact ⟨h1, h2⟩
section Came
variable {H : Type} {enc : TypeId × Value → H} {w : World} {spare : Nat → Bool} {held : Bool}
theorem text_of {n : Nat} {v : Value} {x : DataW H × List MemPlace} (h : DataW.trod enc Tryz.prog w 0 spare held n 9 [v] = some x) : ∃ z : ByteArray, v = .string z ∧ z.size ≤ maxLen := by
  obtain ⟨s, e, -, hs⟩ := DataW.trod_string Tryz.underlying9 h
  cases e
  exact ⟨s, rfl, hs⟩
set_option maxRecDepth 100000 in
theorem keep_of {fuel : Nat} {v : Value} {x : DataW H × List MemPlace} (hf : DataW.trod enc Tryz.prog w 0 spare held fuel 52 [v] = some x) :
    ∃ (A : Option Addr) (c : Nat) (k : Sf.Keep), v = .slice A k.n c ∧ KeepIn w A c k := by
  rcases open_slice Tryz.underlying52 hf with ⟨hcs, _⟩ | ⟨a, len, cap, m, n', D, Pl, hcs, _, hl, hm, hmm, _, hi⟩
  · obtain rfl := (List.cons.inj hcs).1
    exact ⟨none, 0, ⟨fun _ => 0, 0⟩, rfl, fun h => absurd h (Nat.lt_irrefl 0), Nat.zero_le _, fun i hi => absurd hi (Nat.not_lt_zero i)⟩
  · obtain rfl := (List.cons.inj hcs).1
    have hc1 : Tryz.prog.cellsOf 3 = 1 := by kernel_rfl
    have hlm : len ≤ m := by rw [hmm]; split <;> omega
    have each : ∀ i, i < m → ∃ q : Int, w.cell? (a.add (i * 1)) = some (.int .i64 q) ∧ (Lit.int .i64 q).wf = true := fun i him => by
      obtain ⟨cs', h1, h2⟩ := hi i him
      rw [hc1] at h1
      obtain ⟨_, hlen, hcell⟩ := World.cells?_some h1
      obtain ⟨q, hq, -, hw⟩ := DataW.trod_int Tryz.underlying3 h2
      have e := hcell 0 (by omega)
      rw [add_add] at e
      refine ⟨q, ?_, hw⟩
      rw [hq] at e
      exact e
    obtain ⟨q, hq⟩ := choose_lt each
    refine ⟨some a, cap, ⟨q, len⟩, rfl, fun hn => ⟨a, rfl, ?_, fun i hin j hj => ?_⟩, Nat.le_trans hl hm, fun i hi => i64_bdk (hq i (Nat.lt_of_lt_of_le hi hlm)).2⟩
    · have hn0 : 0 < len := hn
      have := block_lt_of_cell (hq 0 (by omega)).1
      rwa [addr_block] at this
    · obtain rfl : j = 0 := by omega
      have hin0 : i < len := hin
      exact (hq i (by omega)).1
set_option maxRecDepth 100000 in
theorem open_keep {r : Reach} {b0 : Nat} {v : Value} {d : DataW H} {p : List MemPlace} (hv : Value.okWide Tryz.prog w r b0 52 v) (h : DataW.Trod enc Tryz.prog w 0 spare held 52 v d p) :
    ∃ (A : Option Addr) (c : Nat) (k : Sf.Keep), v = .slice A k.n c ∧ KeepIn w A c k := by
  obtain ⟨A, n, c, rfl⟩ := okWide_slice Tryz.underlying52 hv
  obtain ⟨fuel, hf⟩ := h
  exact keep_of hf
end Came
end Go.Proofs.YtfibapfehgglhaaGreatDoor
/-
  A text behind texts of the law's own.
-/
namespace Go.Proofs.YtfibapfehgglhaaGreatDoor
open Go.RowKit
theorem infoStr : (Tryz.prog.info? 9).map (fun i => (i.zero, i.size, i.bytes)) = some (some (.string ByteArray.empty), 1, 16) := by kernel_rfl
theorem tx_snoc (l : List (List UInt8)) (k : List UInt8) : rcells 1 (tx l) l.length ++ rcells 1 (fun _ _ => .string (bs k)) 1 = rcells 1 (tx (l ++ [k])) (l ++ [k]).length := by
  rw [List.length_append, List.length_singleton, rcells_succ 1 (tx (l ++ [k])) l.length]
  have e1 : rcells 1 (tx (l ++ [k])) l.length = rcells 1 (tx l) l.length := by
    apply List.ext_getElem?
    intro i
    by_cases h : i < l.length
    · have a := rcells_get 1 (tx (l ++ [k])) l.length i 0 h (by omega)
      have b := rcells_get 1 (tx l) l.length i 0 h (by omega)
      rw [Nat.mul_one, Nat.add_zero] at a b
      rw [a, b]
      unfold tx
      simp [List.getD, h, List.getElem?_append_left]
    · rw [List.getElem?_eq_none (by rw [rcells_length]; omega), List.getElem?_eq_none (by rw [rcells_length]; omega)]
  rw [e1]
  congr 1
  simp [rcells, tx, List.getD]
theorem tx_one (l : List (List UInt8)) (i j : Nat) : (tx l i j).oneCell' = true := rfl
theorem Txs.nil (w : World) (b : Nat) : Txs w b (.slice none 0 0) [] := ⟨World.ownsRow_nil _ _ _ _⟩
theorem wpList_append_text {ops : Array Oper} {rest : List Oper} {o : Oper} {a : Act} {Q : Exit → Act → World → Prop} (w : World) (hgd : o.guard = none) (s y : Operand)
    (ho : o.op = .call { callee := .builtin .append, args := #[s, y], argTypes := #[34, 34] })
    (b : Nat) (v : Value) (l : List (List UInt8)) (hs : a.eval s = v) (ht : Txs w b v l) (g : Nat) (k : List UInt8) (fr : Nat × Nat) (hy : a.eval y = .slice (some ⟨g, 0, none⟩) 1 1) (hg : w.heap[g]? = some (.cells #[.string (bs k)] 9 fr)) (hsz : l.length ≤ 900000) (hb : b ≤ w.heap.size)
    (h : ∀ (A : Option Addr) (c : Nat) (w' : World), Txs w' b (.slice A (l.length + 1) c) (l ++ [k]) → w.grownBy w' v.ownBlock → wpList Tryz.prog ops Q rest (a.put o.dst (.slice A (l.length + 1) c)) w') : wpList Tryz.prog ops Q (o :: rest) a w := by
  refine wpList_append_row_at w hgd s y 34 9 ho 1 16 (.string ByteArray.empty) Tryz.underlying34 infoStr rfl (by decide) (by decide) b v l.length (rcells 1 (tx l) l.length) hs ht.own ⟨g, 0, none⟩ 1 1 (fun _ _ => .string (bs k)) (fun _ _ => rfl) hy ?_ (by omega) hb ?_
  · exact row_there 1 _ w g _ _ fr hg (fun j hj => by
      obtain rfl : j = 0 := by omega
      rfl)
  · intro v' w' h1 h2 _
    rw [tx_snoc] at h1
    have ht2 : Txs w' b v' (l ++ [k]) := ⟨by
      have e : (l ++ [k]).length = l.length + 1 := by simp
      rw [e] at h1 ⊢
      exact h1⟩
    obtain ⟨A, c, e⟩ := ht2.slice
    subst e
    rw [show (l ++ [k]).length = l.length + 1 by simp] at ht2 ⊢
    exact h A c w' ht2 h2
theorem Txs.lo {w : World} {b : Nat} {v : Value} {l : List (List UInt8)} (h : Txs w b v l) : ∀ r, v.ownBlock = some r → b ≤ r := fun r e => (h.own.lt r e).1
theorem Txs.hi {w : World} {b : Nat} {v : Value} {l : List (List UInt8)} (h : Txs w b v l) : ∀ r, v.ownBlock = some r → r < w.heap.size := fun r e => (h.own.lt r e).2
/-- texts, where a machine is at work, and others grow -/
theorem Txs.kept {w w2 : World} {b : Nat} {v : Value} {l : List (List UInt8)} {row : Option Nat} (h : Txs w b v l) (hg : w.grownBy w2 row) (hr : ∀ r, row = some r → v.ownBlock ≠ some r) : Txs w2 b v l := ⟨row_kept h.own hg hr⟩
theorem FsAt.kept {w w2 : World} {base fb : Nat} {S : Sf.St} {row : Option Nat} (h : FsAt w base fb S) (hg : w.grownBy w2 row) {T : TypeId} (hT : T ≠ 51 ∧ T ≠ 84 ∧ T ≠ 298 ∧ T ≠ 242) (hr : ∀ g, row = some g → ∃ cs fr, w.heap[g]? = some (.cells cs T fr)) : FsAt w2 base fb S := by
  obtain ⟨mb, sb, cv, cvs, h⟩ := h
  have hne : ∀ {j : Nat} {cs : Array Value} {U : TypeId} {fr : Nat × Nat}, w.heap[j]? = some (.cells cs U fr) → U ≠ T → some j ≠ row := fun hj hU e => by
    obtain ⟨cs2, fr2, h2⟩ := hr _ e.symm
    rw [hj] at h2
    cases h2
    exact hU rfl
  have hmap : ∀ {j : Nat} {d : Sf.D}, NamesAt w j d → some j ≠ row := fun hj e => by
    obtain ⟨cs2, fr2, h2⟩ := hr _ e.symm
    exact names_ne hj h2 rfl
  have hrow : ∀ {v : Value} {e k n : Nat} {xs : List Value}, w.ownsRow base e k v n xs → T ≠ e → ∀ r, row = some r → v.ownBlock ≠ some r := fun ho hTe r e => by
    obtain ⟨cs2, fr2, h2⟩ := hr _ e
    exact own_ne ho h2 hTe
  refine ⟨mb, sb, cv, cvs, h.lo, h.lom, h.los, h.ne, (hg.block fb (Array.getElem?_eq_some_iff.1 h.blk).1 (hne h.blk hT.1.symm)).trans h.blk, h.nam.kept hg (hmap h.nam), h.syn.kept hg (hmap h.syn), row_kept h.row hg (hrow h.row hT.2.2.1), fun x hx => ?_, h.apart⟩
  have hf := h.fil x hx
  exact ⟨hf.lo, (hg.block x (Array.getElem?_eq_some_iff.1 hf.blk).1 (hne hf.blk hT.2.1.symm)).trans hf.blk, row_kept hf.row hg (hrow hf.row hT.2.2.2)⟩
theorem Runs.kept {W : World} {base fb B N : Nat} {S : Sf.St} {wr w2 : World} {row : Option Nat} (h : Runs W base fb B N S wr) (hg : wr.grownBy w2 row) {T : TypeId} (hT : T ≠ 51 ∧ T ≠ 84 ∧ T ≠ 298 ∧ T ≠ 242) (hr : ∀ g, row = some g → ∃ cs fr, wr.heap[g]? = some (.cells cs T fr)) (hlo : ∀ g, row = some g → W.heap.size ≤ g) : Runs W base fb B N S w2 :=
  ⟨h.fs.kept hg hT hr, h.ok, h.bel.grown hg h.bel.size hlo, h.lo, Nat.le_trans h.hi hg.size⟩
theorem Txs.cells {w : World} {b : Nat} {v : Value} {l : List (List UInt8)} (h : Txs w b v l) : ∀ g, v.ownBlock = some g → ∃ cs fr, w.heap[g]? = some (.cells cs 9 fr) := fun g e => by
  rcases h.own.2 with ⟨rfl, -⟩ | ⟨g1, cap, cur, rfl, -, hc, -⟩
  · cases e
  · have a : some g1 = some g := e
    cases a
    exact ⟨_, _, hc⟩
/-- what is read of the first names -/
def reads (S : Sf.St) (l : List (List UInt8)) (j : Nat) : List (List UInt8) := (List.range j).map fun i => (S.read (bs (l.getD i []))).1.data.toList
theorem reads_length (S : Sf.St) (l : List (List UInt8)) (j : Nat) : (reads S l j).length = j := by simp [reads]
theorem reads_succ (S : Sf.St) (l : List (List UInt8)) (j : Nat) : reads S l (j + 1) = reads S l j ++ [(S.read (bs (l.getD j []))).1.data.toList] := by
  unfold reads
  rw [List.range_succ, List.map_append]
  rfl
theorem reads_at (S : Sf.St) (l : List (List UInt8)) {j i : Nat} (h : i < j) : tx (reads S l j) i 0 = .string (S.read (bs (l.getD i []))).1 := by
  unfold tx reads
  simp [List.getD, h, Sf.bs_data]
end Go.Proofs.YtfibapfehgglhaaGreatDoor
