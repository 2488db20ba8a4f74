/-
  A machine through its acts; texts of the law's own.
-/
import Derived.Test.YtgpmomjdjakklaaSgA
namespace Go.Proofs.Ytgpmomjdjakklaa
open Go.RowKit Go.Maps
theorem row_stays {W W2 : World} {base e k n : Nat} {v : Value} {xs : List Value} (h : W.ownsRow base e k v n xs) (hs : Stays W W2) (he : e ≠ 50 ∧ e ≠ 66 ∧ e ≠ 58 ∧ e ≠ 88) : W2.ownsRow base e k v n xs := by
  refine ⟨h.1, ?_⟩
  rcases h.2 with h0 | ⟨g, cap, cur, rfl, hb, hc, hx⟩
  · exact Or.inl h0
  · exact Or.inr ⟨g, cap, cur, rfl, hb, hs _ _ _ _ hc he.1 he.2.1 he.2.2.1 he.2.2.2, hx⟩
/-- a row of texts of the law's own -/
structure Txs (w : World) (b : Nat) (v : Value) (l : List (List UInt8)) : Prop where
  own : w.ownsRow b 9 1 v l.length (rcells 1 (tx l) l.length)
theorem Txs.stays {w w2 : World} {b : Nat} {v : Value} {l : List (List UInt8)} (h : Txs w b v l) (hs : Stays w w2) : Txs w2 b v l := ⟨row_stays h.own hs (by decide)⟩
theorem Txs.far {w w2 : World} {b : Nat} {v : Value} {l : List (List UInt8)} (h : Txs w b v l) (hb : Below w.heap.size w w2) : Txs w2 b v l := ⟨row_far h.own hb⟩
theorem Txs.from_ {w : World} {b b2 : Nat} {v : Value} {l : List (List UInt8)} (h : Txs w b v l) (hb : b2 ≤ b) : Txs w b2 v l := ⟨own_from h.own hb⟩
theorem Txs.row {w : World} {b : Nat} {A : Option Addr} {n c : Nat} {l : List (List UInt8)} (h : Txs w b (.slice A n c) l) : Row 1 (tx l) w A l.length := by
  obtain ⟨A2, c2, e, -, -, -, h2⟩ := own_row h.own
  cases e
  exact h2
theorem Txs.slice {w : World} {b : Nat} {v : Value} {l : List (List UInt8)} (h : Txs w b v l) : ∃ A c, v = .slice A l.length c := by
  obtain ⟨A, c, e, -⟩ := own_row h.own
  exact ⟨A, c, e⟩
/-- what a machine does leaves blocks of other types as they were -/
structure Moves (w w2 : World) : Prop where
  st : Stays w w2
  sz : w.heap.size ≤ w2.heap.size
/-- a machine of the law's -/
structure Runs (W : World) (base fb B N : Nat) (S : Sf.St) (wr : World) : Prop where
  fs : FsAt wr base fb S
  ok : Sf.StOk B N S
  bel : Below W.heap.size W wr
  lo : W.heap.size ≤ base
  hi : base ≤ wr.heap.size
theorem Runs.far {W : World} {base fb B N : Nat} {S : Sf.St} {wr w2 : World} (h : Runs W base fb B N S wr) (hb : Below wr.heap.size wr w2) : Runs W base fb B N S w2 := ⟨h.fs.far hb, h.ok, below_step h.bel hb, h.lo, Nat.le_trans h.hi hb.size⟩
theorem Runs.left {W : World} {base fb B N B2 N2 : Nat} {S S2 : Sf.St} {wr w2 : World} (h : Runs W base fb B N S wr) (hl : Left wr base fb S2 w2) (ho : Sf.StOk B2 N2 S2) : Runs W base fb B2 N2 S2 w2 := ⟨hl.fs, ho, h.bel.trans (hl.bel.mono h.lo), h.lo, Nat.le_trans h.hi hl.bel.size⟩
theorem Runs.keys {W : World} {base fb B N : Nat} {S : Sf.St} {wr : World} (h : Runs W base fb B N S wr) : Sf.KS S.names := by
  obtain ⟨mb, sb, cv, cvs, hf⟩ := h.fs
  exact Sf.keys_of hf.nam
theorem Runs.mono {W : World} {base fb B N B2 N2 : Nat} {S : Sf.St} {wr : World} (h : Runs W base fb B N S wr) (hB : B ≤ B2) (hN : N ≤ N2) : Runs W base fb B2 N2 S wr := ⟨h.fs, h.ok.mono hB hN, h.bel, h.lo, h.hi⟩
theorem Runs.crash {W : World} {base fb B N : Nat} {S : Sf.St} {wr : World} (h : Runs W base fb B N S wr) (hN : N ≤ 999) (hB : B ≤ 1000000000) {A : Option Addr} {kc : Nat} {k : Sf.Keep} (hk : ∀ U, Below base wr U → Stays wr U → KeepIn U A kc k) :
    Calls Try.prog 13 #[.pointer (some ⟨fb, 0, none⟩), .slice A k.n kc] wr fun e w' => e = .returned (.tuple #[]) ∧ Runs W base fb B N (S.crash k) w' ∧ Moves wr w' ∧ Sf.KS (S.now k) :=
  (Crash_any h.fs h.hi h.ok hN hB hk).mono fun _ _ ⟨he, hl⟩ => ⟨he, h.left hl (h.ok.crash k), ⟨hl.st, hl.bel.size⟩, (h.left hl (h.ok.crash k)).keys⟩
theorem Runs.keep {W : World} {base fb B N : Nat} {S : Sf.St} {wr : World} (h : Runs W base fb B N S wr) {A : Option Addr} {kc : Nat} {k : Sf.Keep} (hk : KeepIn W A kc k) : ∀ U, Below base wr U → Stays wr U → KeepIn U A kc k := fun _ hU _ => hk.later (h.bel.trans (hU.mono h.lo))
theorem Runs.list {W : World} {base fb B N : Nat} {S : Sf.St} {wr : World} (h : Runs W base fb B N S wr) :
    Calls Try.prog 18 #[.pointer (some ⟨fb, 0, none⟩)] wr fun e w' => ∃ A c, e = .returned (.slice A (Sf.list S.names).length c) ∧ Txs w' wr.heap.size (.slice A (Sf.list S.names).length c) (Sf.list S.names) ∧ Below wr.heap.size wr w' :=
  (List_any h.fs h.ok.nice).mono fun _ _ ⟨v, he, hr, hb⟩ => by
    rw [rcells_enc] at hr
    have ht : Txs _ wr.heap.size v (Sf.list S.names) := ⟨hr⟩
    obtain ⟨A, c, e⟩ := ht.slice
    subst e
    exact ⟨A, c, he, ht, hb⟩
theorem Runs.few {W : World} {base fb B N : Nat} {S : Sf.St} {wr : World} (h : Runs W base fb B N S wr) : (Sf.list S.names).length ≤ 64 := by
  rw [Sf.list_length]
  exact h.ok.nice.few
theorem Runs.read {W : World} {base fb B N : Nat} {S : Sf.St} {wr : World} (h : Runs W base fb B N S wr) (s : ByteArray) (hs : s.size ≤ maxLen) :
    Calls Try.prog 14 #[.pointer (some ⟨fb, 0, none⟩), .string s] wr fun e w' => e = .returned (.tuple #[.string (S.read s).1, .int .i64 (S.read s).2]) ∧ Below wr.heap.size wr w' := Read_any h.fs h.ok s hs
theorem Runs.size {W : World} {base fb B N : Nat} {S : Sf.St} {wr : World} (h : Runs W base fb B N S wr) (hB : B ≤ 1000000000) :
    Calls Try.prog 43 #[.pointer (some ⟨fb, 0, none⟩)] wr fun e w' => e = .returned (.int .i64 ((S.total : Nat) : Int)) ∧ Below wr.heap.size wr w' := Size_any h.fs h.ok hB
theorem runs_new {W w : World} (hb : Below W.heap.size W w) (room : Int) (hr : room ≤ 9223372036854775807) :
    Calls Try.prog 9 #[.int .i64 room] w fun e w' => ∃ fb, e = .returned (.pointer (some ⟨fb, 0, none⟩)) ∧ Runs W w.heap.size fb 0 0 (Sf.St.new room) w' ∧ Below w.heap.size w w' :=
  (New_any room w).mono fun _ _ ⟨fb, he, hf, hb2⟩ => ⟨fb, he, ⟨hf, Sf.new_ok 0 0 room hr, below_step hb hb2, hb.size, hb2.size⟩, hb2⟩
/-! the document's example -/
namespace Sf
def xN : ByteArray := ⟨#[120]⟩
def abc : ByteArray := ⟨#[97, 98, 99]⟩
theorem create_yes {S : St} {s : ByteArray} (y : Nat) (hd : S.dead = false) (hs : isName s = true) (hl : look S.names s = none) (hz : Go.Maps.size S.names < 64) (hf : S.fuse ≠ 0) : S.create s y = ((S.file y file0).tick.naming (.cre s y), 0) := by
  unfold St.create
  rw [hd, hl, hs]
  rw [if_neg (by decide), if_neg (by decide), if_neg (by decide), if_neg (by omega)]
  unfold St.nameDo
  rw [if_neg (show ¬ (S.file y file0).fuse = 0 from hf)]
theorem append_yes {S : St} {s b : ByteArray} {x : Nat} (hd : S.dead = false) (hl : look S.names s = some x) (hr : (S.total : Int) + (b.size : Int) ≤ S.room) (hf : S.fuse ≠ 0) : S.append s b = (S.tick.file x ((S.F x).change (.app b)), 0) := by
  unfold St.append
  rw [hd, hl]
  rw [if_neg (by decide)]
  show (if _ then _ else _) = _
  rw [if_neg (by omega)]
  unfold St.fileDo
  rw [if_neg hf]
theorem sync_yes {S : St} {s : ByteArray} {x : Nat} (hd : S.dead = false) (hl : look S.names s = some x) (hf : S.fuse ≠ 0) : S.sync s = (S.tick.file x (whole (S.F x).bytes), 0) := by
  unfold St.sync
  rw [hd, hl]
  rw [if_neg (by decide)]
  show S.fileDo x _ = _
  unfold St.fileDo
  rw [if_neg hf]
theorem dir_yes {S : St} (hd : S.dead = false) (hf : S.fuse ≠ 0) : S.dirDo = (S.tick.dir, 0) := by
  unfold St.dirDo
  rw [hd, if_neg (by decide), if_neg hf]
/-- one file -/
def one (y : Nat) : D := (DataW.map [] : D).put (key xN) (hd y)
theorem one_look (y : Nat) : look (one y) xN = some y := look_put_same isMap_empty xN y
theorem one_keys (y : Nat) : strKeys (one y) = [[120]] := rfl
theorem one_list (y : Nat) : list (one y) = [[120]] := by unfold list; rw [one_keys]; simp
theorem one_total {S : St} {y : Nat} (h : S.names = one y) : S.total = (S.F y).bytes.size := by
  unfold St.total tot
  rw [h, one_keys]
  have e : bs [120] = xN := rfl
  simp [szOf, e, one_look]
def keep0 : Keep := ⟨fun _ => 0, 0⟩
def keep3 : Keep := ⟨fun i => if i = 0 then 1 else if i = 1 then 0 else 2, 3⟩
def w1 (y : Nat) : St := ((St.new 100).create xN y).1
def w2 (y : Nat) : St := ((w1 y).append xN abc).1
def w3 (y : Nat) : St := ((w2 y).sync xN).1
def w4 (y : Nat) : St := (w3 y).crash keep0
def w5 (y z : Nat) : St := ((w4 y).create xN z).1
def w6 (y z : Nat) : St := (w5 y z).dirDo.1
def w7 (y z : Nat) : St := ((w6 y z).append xN abc).1
def w8 (y z : Nat) : St := (w7 y z).crash keep3
theorem ex1 (y : Nat) : (St.new 100).create xN y = (((St.new 100).file y file0).tick.naming (.cre xN y), 0) := create_yes y rfl (by decide) (look_empty _) (by decide) (by decide)
theorem w1_eq (y : Nat) : w1 y = ((St.new 100).file y file0).tick.naming (.cre xN y) := by unfold w1; rw [ex1]
theorem w1_names (y : Nat) : (w1 y).names = one y := by rw [w1_eq]; rfl
theorem w1_F (y : Nat) : (w1 y).F y = file0 := by rw [w1_eq]; exact file_same
theorem ex2 (y : Nat) : (w1 y).append xN abc = ((w1 y).tick.file y (((w1 y).F y).change (.app abc)), 0) := append_yes (by rw [w1_eq]; rfl) (by rw [w1_names]; exact one_look y) (by rw [one_total (w1_names y), w1_F, w1_eq]; show ((0 : Nat) : Int) + ((3 : Nat) : Int) ≤ max 100 0; decide) (by rw [w1_eq]; show (if (0 : Int) < -1 then (-1 : Int) - 1 else -1) ≠ 0; decide)
theorem w2_eq (y : Nat) : w2 y = (w1 y).tick.file y (((w1 y).F y).change (.app abc)) := by unfold w2; rw [ex2]
theorem w2_names (y : Nat) : (w2 y).names = one y := by rw [w2_eq]; exact w1_names y
theorem w2_fuse (y : Nat) : (w2 y).fuse = -1 := by rw [w2_eq, w1_eq]; rfl
theorem ex3 (y : Nat) : (w2 y).sync xN = ((w2 y).tick.file y (whole ((w2 y).F y).bytes), 0) := sync_yes (by rw [w2_eq, w1_eq]; rfl) (by rw [w2_names]; exact one_look y) (by rw [w2_fuse]; decide)
theorem w2_bytes (y : Nat) : ((w2 y).F y).bytes = abc := by
  rw [w2_eq, file_same, w1_F]
  rfl
theorem w3_eq (y : Nat) : w3 y = (w2 y).tick.file y (whole ((w2 y).F y).bytes) := by unfold w3; rw [ex3]
theorem ex4 (y : Nat) : (w3 y).total = 3 := by
  rw [one_total (y := y) (by rw [w3_eq]; exact w2_names y), w3_eq, file_same, w2_bytes]
  rfl
theorem w3_synced (y : Nat) : (w3 y).synced = .map [] ∧ (w3 y).room = 100 ∧ (w3 y).steps = 3 := by
  rw [w3_eq, w2_eq, w1_eq]
  exact ⟨rfl, rfl, rfl⟩
theorem w4_names (y : Nat) : (w4 y).names = .map [] := by
  show Sf.names (w3 y).synced ((w3 y).chg.take (share keep0 0 (w3 y).chg.length)) = _
  rw [show share keep0 0 (w3 y).chg.length = 0 from rfl, (w3_synced y).1]
  rfl
theorem w4_synced (y : Nat) : (w4 y).synced = .map [] := w4_names y
theorem ex5 (y : Nat) : ((w4 y).read xN).2 = 11 := by rw [read_no rfl (by rw [w4_names]; exact look_empty _)]
theorem ex6 (y z : Nat) : (w4 y).create xN z = (((w4 y).file z file0).tick.naming (.cre xN z), 0) := create_yes z rfl (by decide) (by rw [w4_names]; exact look_empty _) (by rw [w4_names]; decide) (by show (-1 : Int) ≠ 0; decide)
theorem w5_eq (y z : Nat) : w5 y z = ((w4 y).file z file0).tick.naming (.cre xN z) := by unfold w5; rw [ex6]
theorem w5_names (y z : Nat) : (w5 y z).names = one z := by
  rw [w5_eq]
  show (Nm.cre xN z).app (w4 y).names = _
  rw [w4_names]
  rfl
theorem w5_F (y z : Nat) : (w5 y z).F z = file0 := by rw [w5_eq]; exact file_same
theorem w5_fuse (y z : Nat) : (w5 y z).fuse = -1 ∧ (w5 y z).dead = false ∧ (w5 y z).room = 100 ∧ (w5 y z).steps = 4 := by
  rw [w5_eq]
  have h := w3_synced y
  exact ⟨rfl, rfl, h.2.1, by show (w3 y).steps + 1 = 4; rw [h.2.2]; rfl⟩
theorem ex7 (y z : Nat) : (w5 y z).dirDo = ((w5 y z).tick.dir, 0) := dir_yes (w5_fuse y z).2.1 (by rw [(w5_fuse y z).1]; decide)
theorem w6_eq (y z : Nat) : w6 y z = (w5 y z).tick.dir := by unfold w6; rw [ex7]
theorem w6_all (y z : Nat) : (w6 y z).names = one z ∧ (w6 y z).synced = one z ∧ (w6 y z).chg = [] ∧ (w6 y z).fuse = -1 ∧ (w6 y z).dead = false ∧ (w6 y z).room = 100 ∧ (w6 y z).steps = 5 ∧ (w6 y z).F z = file0 := by
  obtain ⟨h1, h2, h3, h4⟩ := w5_fuse y z
  rw [w6_eq]
  refine ⟨w5_names y z, w5_names y z, rfl, ?_, h2, h3, ?_, w5_F y z⟩
  · show (if 0 < (w5 y z).fuse then (w5 y z).fuse - 1 else (w5 y z).fuse) = -1
    rw [h1]; rfl
  · show (w5 y z).steps + 1 = 5
    rw [h4]; rfl
theorem ex8 (y z : Nat) : (w6 y z).append xN abc = ((w6 y z).tick.file z (((w6 y z).F z).change (.app abc)), 0) := by
  obtain ⟨h1, h2, h3, h4, h5, h6, h7, h8⟩ := w6_all y z
  exact append_yes h5 (by rw [h1]; exact one_look z) (by rw [one_total h1, h8, h6]; decide) (by rw [h4]; decide)
theorem w7_all (y z : Nat) : (w7 y z).names = one z ∧ (w7 y z).synced = one z ∧ (w7 y z).chg = [] ∧ (w7 y z).steps = 6 ∧ (w7 y z).F z = ⟨abc, ⟨#[]⟩, [.app abc]⟩ := by
  obtain ⟨h1, h2, h3, h4, h5, h6, h7, h8⟩ := w6_all y z
  unfold w7
  rw [ex8]
  refine ⟨h1, h2, h3, ?_, ?_⟩
  · show (w6 y z).steps + 1 = 6
    rw [h7]; rfl
  · show ((w6 y z).tick.file z (((w6 y z).F z).change (.app abc))).F z = _
    rw [file_same, h8]
    rfl
theorem w8_all (y z : Nat) : (w8 y z).names = one z ∧ (w8 y z).steps = 6 ∧ ((w8 y z).F z).bytes = ⟨#[97, 98]⟩ := by
  obtain ⟨h1, h2, h3, h4, h5⟩ := w7_all y z
  have e : (w7 y z).now keep3 = one z := by
    unfold St.now
    rw [h3, h2]
    rfl
  refine ⟨e, h4, ?_⟩
  show ((crashTo keep3 ((w7 y z).now keep3) (list ((w7 y z).now keep3)) (w7 y z) (list ((w7 y z).now keep3)).length).F z).bytes = _
  rw [e, one_list]
  show ((crashTo keep3 (one z) [[120]] (w7 y z) 1).F z).bytes = _
  unfold crashTo
  rw [show bs ([[120]].getD 0 ([] : List UInt8)) = xN from rfl, one_look]
  show (((crashTo keep3 (one z) [[120]] (w7 y z) 0).file z (whole (((crashTo keep3 (one z) [[120]] (w7 y z) 0).F z).survive keep3 1))).F z).bytes = _
  rw [file_same]
  show ((w7 y z).F z).survive keep3 1 = _
  rw [h5]
  decide +kernel
theorem ex9 (y z : Nat) : (w8 y z).read xN = (⟨#[97, 98]⟩, 0) := by
  obtain ⟨h1, h2, h3⟩ := w8_all y z
  rw [read_of rfl (by rw [h1]; exact one_look z), h3]
end Sf
end Go.Proofs.Ytgpmomjdjakklaa
