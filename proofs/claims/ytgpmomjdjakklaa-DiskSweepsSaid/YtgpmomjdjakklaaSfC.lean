/-
  A machine in a world: what stays; what is read of it.
-/
import Derived.Test.YtgpmomjdjakklaaSfB
namespace Go.Proofs.Ytgpmomjdjakklaa
open Go.RowKit
def Sf.Nm.val : Sf.Nm → Value
  | .cre s h => .iface 70 (.agg #[.string s, .pointer (some ⟨h, 0, none⟩)])
  | .ren a b => .iface 82 (.agg #[.string a, .string b])
  | .rem a => .iface 78 (.agg #[.string a])
def Sf.Wr.val : Sf.Wr → Value
  | .app b => .iface 74 (.agg #[.string b])
  | .cut n => .iface 96 (.agg #[.int .i64 (n : Int)])
def nx (L : List Sf.Nm) (i _ : Nat) : Value := (L.getD i (.rem ByteArray.empty)).val
def wx (L : List Sf.Wr) (i _ : Nat) : Value := (L.getD i (.cut 0)).val
theorem nx_one (L : List Sf.Nm) (i j : Nat) : (nx L i j).oneCell' = true := by
  unfold nx
  cases L.getD i (.rem ByteArray.empty) <;> rfl
theorem wx_one (L : List Sf.Wr) (i j : Nat) : (wx L i j).oneCell' = true := by
  unfold wx
  cases L.getD i (.cut 0) <;> rfl
/-- blocks of other types than a machine's own stay as they were -/
def Stays (W W2 : World) : Prop := ∀ (g : Nat) (cs : Array Value) (T : TypeId) (fr : Nat × Nat), W.heap[g]? = some (.cells cs T fr) → T ≠ 50 → T ≠ 66 → T ≠ 58 → T ≠ 88 → W2.heap[g]? = some (.cells cs T fr)
theorem Stays.refl (W : World) : Stays W W := fun _ _ _ _ h _ _ _ _ => h
theorem Stays.trans {W W2 W3 : World} (h : Stays W W2) (h2 : Stays W2 W3) : Stays W W3 := fun g cs T fr ho a b c d => h2 g cs T fr (h g cs T fr ho a b c d) a b c d
theorem Stays.below {W W2 : World} (hb : Below W.heap.size W W2) : Stays W W2 := fun _ _ _ _ h _ _ _ _ => heap_keep h hb
theorem Stays.grown {W W2 : World} {g : Nat} (hg : W.grownBy W2 (some g)) (hn : ∀ cs T fr, W.heap[g]? = some (.cells cs T fr) → T = 50 ∨ T = 66 ∨ T = 58 ∨ T = 88) : Stays W W2 := fun j cs T fr ho a b c d => by
  refine (hg.block j (Array.getElem?_eq_some_iff.1 ho).1 (fun e => ?_)).trans ho
  cases e
  rcases hn _ _ _ ho with h | h | h | h
  · exact a h
  · exact b h
  · exact c h
  · exact d h
/-- a file in a world -/
structure FileAt (w : World) (base h : Nat) (x : Sf.File) (cv : Value) : Prop where
  lo : base ≤ h
  blk : w.heap[h]? = some (.cells #[.string x.bytes, .string x.synced, cv] 66 (0, 0))
  row : w.ownsRow base 88 1 cv x.chg.length (rcells 1 (wx x.chg) x.chg.length)
/-- a machine in a world, of these files -/
structure FsIn (w : World) (base fb : Nat) (S : Sf.St) (L : Nat → Prop) (mb sb : Nat) (cv : Value) (cvs : Nat → Value) : Prop where
  lo : base ≤ fb
  lom : base ≤ mb
  los : base ≤ sb
  ne : mb ≠ sb
  blk : w.heap[fb]? = some (.cells #[.map (some mb), .map (some sb), cv, .int .i64 S.room, .int .i64 S.steps, .int .i64 S.fuse, .bool S.dead] 50 (0, 0))
  nam : NamesAt w mb S.names
  syn : NamesAt w sb S.synced
  row : w.ownsRow base 58 1 cv S.chg.length (rcells 1 (nx S.chg) S.chg.length)
  fil : ∀ h, L h → FileAt w base h (S.F h) (cvs h)
  apart : ∀ h k, L h → L k → h ≠ k → ∀ r, (cvs h).ownBlock = some r → (cvs k).ownBlock ≠ some r
theorem FileAt.far {w w2 : World} {base h : Nat} {x : Sf.File} {cv : Value} (hf : FileAt w base h x cv) (hb : Below w.heap.size w w2) : FileAt w2 base h x cv := ⟨hf.lo, heap_keep hf.blk hb, row_far hf.row hb⟩
theorem FsIn.far {w w2 : World} {base fb : Nat} {S : Sf.St} {L : Nat → Prop} {mb sb : Nat} {cv : Value} {cvs : Nat → Value} (h : FsIn w base fb S L mb sb cv cvs) (hb : Below w.heap.size w w2) : FsIn w2 base fb S L mb sb cv cvs :=
  ⟨h.lo, h.lom, h.los, h.ne, heap_keep h.blk hb, h.nam.later hb, h.syn.later hb, row_far h.row hb, fun x hx => (h.fil x hx).far hb, h.apart⟩
theorem names_ne {w : World} {b g : Nat} {d : Sf.D} {cs : Array Value} {T : TypeId} {fr : Nat × Nat} (h : NamesAt w b d) (hg : w.heap[g]? = some (.cells cs T fr)) : b ≠ g := by
  rintro rfl
  obtain ⟨es, clock, h0, -⟩ := h
  rw [hg] at h0
  cases h0
theorem own_ne {w : World} {base e k n g : Nat} {v : Value} {xs : List Value} {cs : Array Value} {T : TypeId} {fr : Nat × Nat} (h : w.ownsRow base e k v n xs) (hg : w.heap[g]? = some (.cells cs T fr)) (hT : T ≠ e) : v.ownBlock ≠ some g := by
  intro he
  rcases h.2 with ⟨rfl, -⟩ | ⟨g1, cap, cur, rfl, -, hc, -⟩
  · cases he
  · have a : some g1 = some g := he
    cases a
    rw [hg] at hc
    cases hc
    exact hT rfl
theorem own_ne_map {w : World} {base e k n b : Nat} {v : Value} {xs : List Value} {d : Sf.D} (h : w.ownsRow base e k v n xs) (hm : NamesAt w b d) : v.ownBlock ≠ some b := by
  intro he
  rcases h.2 with ⟨rfl, -⟩ | ⟨g1, cap, cur, rfl, -, hc, -⟩
  · cases he
  · have a : some g1 = some b := he
    cases a
    exact names_ne hm hc rfl
/-- a file, where another block is turned -/
theorem FileAt.other {w w2 : World} {base h g : Nat} {x : Sf.File} {cv : Value} (hf : FileAt w base h x cv) (hg : w.grownBy w2 (some g)) (h1 : h ≠ g) (h2 : cv.ownBlock ≠ some g) : FileAt w2 base h x cv :=
  ⟨hf.lo, grown_keep hf.blk hg h1, row_kept hf.row hg (fun r e => by cases e; exact h2)⟩
/-- the machine's own block is turned -/
theorem FsIn.turn {w w2 : World} {base fb : Nat} {S : Sf.St} {L : Nat → Prop} {mb sb : Nat} {cv : Value} {cvs : Nat → Value} (h : FsIn w base fb S L mb sb cv cvs) (hg : w.grownBy w2 (some fb)) (room steps fuse : Int) (dead : Bool)
    (hb : w2.heap[fb]? = some (.cells #[.map (some mb), .map (some sb), cv, .int .i64 room, .int .i64 steps, .int .i64 fuse, .bool dead] 50 (0, 0))) :
    FsIn w2 base fb { S with room := room, steps := steps, fuse := fuse, dead := dead } L mb sb cv cvs :=
  ⟨h.lo, h.lom, h.los, h.ne, hb, h.nam.kept hg (fun e => by cases e; exact names_ne h.nam h.blk rfl), h.syn.kept hg (fun e => by cases e; exact names_ne h.syn h.blk rfl), row_kept h.row hg (fun r e => by cases e; exact own_ne h.row h.blk (by decide)),
    fun x hx => (h.fil x hx).other hg (by
      rintro rfl
      have h1 := (h.fil _ hx).blk
      rw [h.blk] at h1
      injection h1 with h1
      injection h1 with h1 h2
      exact absurd h2 (by decide)) (own_ne (h.fil x hx).row h.blk (by decide)), h.apart⟩
def FsL (w : World) (base fb : Nat) (S : Sf.St) (L : Nat → Prop) : Prop := ∃ mb sb cv cvs, FsIn w base fb S L mb sb cv cvs
def FsAt (w : World) (base fb : Nat) (S : Sf.St) : Prop := FsL w base fb S (Sf.live S.synced S.chg)
theorem FsAt.far {w w2 : World} {base fb : Nat} {S : Sf.St} (h : FsAt w base fb S) (hb : Below w.heap.size w w2) : FsAt w2 base fb S := by
  obtain ⟨mb, sb, cv, cvs, h⟩ := h
  exact ⟨mb, sb, cv, cvs, h.far hb⟩
def ptrV (o : Option Nat) : Value := .pointer (o.map fun h => ⟨h, 0, none⟩)
/-- what find finds -/
def Sf.St.find (S : Sf.St) (s : ByteArray) : Option Nat × Int := if S.dead then (none, 13) else match Sf.look S.names s with
  | none => (none, 11)
  | some h => (some h, 0)
set_option maxRecDepth 100000 in
theorem find_any {w : World} {base fb : Nat} {S : Sf.St} (h : FsAt w base fb S) (hn : Sf.Nice S.names) (s : ByteArray) (hs : s.size ≤ maxLen) :
    Calls Try.prog 40 #[.pointer (some ⟨fb, 0, none⟩), .string s] w fun e w' => e = .returned (.tuple #[ptrV (S.find s).1, .int .i64 (S.find s).2]) ∧ w' = w := by
  obtain ⟨mb, sb, cv, cvs, h⟩ := h
  have c0 : w.cell? ⟨fb, 0, none⟩ = some (.map (some mb)) := cell_of_row _ _ _ _ _ _ h.blk
  have c6 : w.cell? ⟨fb, 6, none⟩ = some (.bool S.dead) := cell_of_row _ _ _ _ _ _ h.blk
  cases hd : S.dead
  · rw [hd] at c6
    cases hl : Sf.look S.names s with
    | none =>
      have e : S.find s = (none, 11) := by unfold Sf.St.find; rw [hd, hl]; rfl
      rw [e]
      have hlk := look_read_no h.nam hn.files hs hl
      clear h hn hl e hd
      go_enter Try.func40, Try.ntmps40
      go_wp2_with fail
      go_ret2
      exact ⟨rfl, rfl⟩
    | some x =>
      have e : S.find s = (some x, 0) := by unfold Sf.St.find; rw [hd, hl]; rfl
      rw [e]
      have hlk := look_read_ok h.nam hn.files hs hl
      clear h hn hl e hd
      go_enter Try.func40, Try.ntmps40
      go_wp2_with fail
      go_ret2
      exact ⟨rfl, rfl⟩
  · rw [hd] at c6
    have e : S.find s = (none, 13) := by unfold Sf.St.find; rw [hd]; rfl
    rw [e]
    clear h hn e hd
    go_enter Try.func40, Try.ntmps40
    go_wp2_with fail
    go_ret2
    exact ⟨rfl, rfl⟩
set_option maxRecDepth 100000 in
theorem Steps_any {w : World} {base fb : Nat} {S : Sf.St} (h : FsAt w base fb S) :
    Calls Try.prog 16 #[.pointer (some ⟨fb, 0, none⟩)] w fun e w' => e = .returned (.int .i64 S.steps) ∧ w' = w := by
  obtain ⟨mb, sb, cv, cvs, h⟩ := h
  have c4 : w.cell? ⟨fb, 4, none⟩ = some (.int .i64 S.steps) := cell_of_row _ _ _ _ _ _ h.blk
  clear h
  go_enter Try.func16, Try.ntmps16
  go_wp2_with fail
  go_ret
  exact ⟨rfl, rfl⟩
set_option maxRecDepth 100000 in
theorem Dead_any {w : World} {base fb : Nat} {S : Sf.St} (h : FsAt w base fb S) :
    Calls Try.prog 12 #[.pointer (some ⟨fb, 0, none⟩)] w fun e w' => e = .returned (.bool S.dead) ∧ w' = w := by
  obtain ⟨mb, sb, cv, cvs, h⟩ := h
  have c6 : w.cell? ⟨fb, 6, none⟩ = some (.bool S.dead) := cell_of_row _ _ _ _ _ _ h.blk
  clear h
  go_enter Try.func12, Try.ntmps12
  go_wp2_with fail
  go_ret
  exact ⟨rfl, rfl⟩
/-- the machine's own cells -/
theorem fs_cells {w : World} {fb : Nat} {a b c d e f g : Value} (h : w.heap[fb]? = some (.cells #[a, b, c, d, e, f, g] 50 (0, 0))) (i : Nat) (v : Value) : (w.setCell ⟨fb, i, none⟩ v).heap[fb]? = some (.cells (#[a, b, c, d, e, f, g].setIfInBounds i v) 50 (0, 0)) := heap_setCell_same _ fb i _ _ v h
theorem FsAt.below_set {w : World} {base fb i : Nat} {v : Value} (h : base ≤ fb) (hb : base ≤ w.heap.size) : Below base w (w.setCell ⟨fb, i, none⟩ v) := (Below.refl base w).grown (grown_setCell w fb i v) hb (fun r e => by cases e; exact h)
set_option maxRecDepth 100000 in
theorem Room_any {w : World} {base fb : Nat} {S : Sf.St} (h : FsAt w base fb S) (hbase : base ≤ w.heap.size) (n : Int) :
    Calls Try.prog 15 #[.pointer (some ⟨fb, 0, none⟩), .int .i64 n] w fun e w' => e = .returned (.tuple #[]) ∧ FsAt w' base fb { S with room := max n 0 } ∧ Below base w w' ∧ Stays w w' := by
  obtain ⟨mb, sb, cv, cvs, h⟩ := h
  have c3 : w.cell? ⟨fb, 3, none⟩ = some (.int .i64 S.room) := cell_of_row _ _ _ _ _ _ h.blk
  have f3 : w.frozen? ⟨fb, 3, none⟩ = false := frozen_of_row _ _ _ _ _ h.blk
  have HF : Hid (∀ v : Int, FsAt (w.setCell ⟨fb, 3, none⟩ (.int .i64 v)) base fb { S with room := v } ∧ Below base w (w.setCell ⟨fb, 3, none⟩ (.int .i64 v)) ∧ Stays w (w.setCell ⟨fb, 3, none⟩ (.int .i64 v))) := Lib.hid (fun v =>
    ⟨⟨mb, sb, cv, cvs, h.turn (grown_setCell w fb 3 _) v S.steps S.fuse S.dead (fs_cells h.blk 3 _)⟩, FsAt.below_set h.lo hbase, Stays.grown (grown_setCell w fb 3 _) (fun cs T fr e => by rw [h.blk] at e; cases e; exact .inl rfl)⟩)
  clear h
  have hm : max n 0 = if 0 ≤ n then n else 0 := by split <;> omega
  by_cases h0 : 0 ≤ n
  · have hm : max n 0 = n := by omega
    go_enter Try.func15, Try.ntmps15
    go_wp2_with fail
    go_end0
    first | exact ⟨rfl, HF.out _⟩ | (rw [hm]; exact ⟨rfl, HF.out _⟩)
  · have hm : max n 0 = 0 := by omega
    go_enter Try.func15, Try.ntmps15
    go_wp2_with fail
    go_end0
    first | exact ⟨rfl, HF.out _⟩ | (rw [hm]; exact ⟨rfl, HF.out _⟩)
/-- how a fuse is set -/
def Sf.fuseOf (n : Int) : Int := min (max n (-1)) 1073741824
set_option maxRecDepth 100000 in
theorem Fuse_any {w : World} {base fb : Nat} {S : Sf.St} (h : FsAt w base fb S) (hbase : base ≤ w.heap.size) (n : Int) :
    Calls Try.prog 11 #[.pointer (some ⟨fb, 0, none⟩), .int .i64 n] w fun e w' => e = .returned (.tuple #[]) ∧ FsAt w' base fb { S with fuse := Sf.fuseOf n } ∧ Below base w w' ∧ Stays w w' := by
  obtain ⟨mb, sb, cv, cvs, h⟩ := h
  have c3 : w.cell? ⟨fb, 5, none⟩ = some (.int .i64 S.fuse) := cell_of_row _ _ _ _ _ _ h.blk
  have f3 : w.frozen? ⟨fb, 5, none⟩ = false := frozen_of_row _ _ _ _ _ h.blk
  have HF : Hid (∀ v : Int, FsAt (w.setCell ⟨fb, 5, none⟩ (.int .i64 v)) base fb { S with fuse := v } ∧ Below base w (w.setCell ⟨fb, 5, none⟩ (.int .i64 v)) ∧ Stays w (w.setCell ⟨fb, 5, none⟩ (.int .i64 v))) := Lib.hid (fun v =>
    ⟨⟨mb, sb, cv, cvs, h.turn (grown_setCell w fb 5 _) S.room S.steps v S.dead (fs_cells h.blk 5 _)⟩, FsAt.below_set h.lo hbase, Stays.grown (grown_setCell w fb 5 _) (fun cs T fr e => by rw [h.blk] at e; cases e; exact .inl rfl)⟩)
  clear h
  rcases (show n < -1 ∨ n = -1 ∨ (-1 < n ∧ n < 1073741824) ∨ n = 1073741824 ∨ 1073741824 < n by omega) with h0 | h0 | ⟨h0, h1⟩ | h0 | h0
  · have hm : Sf.fuseOf n = -1 := by unfold Sf.fuseOf; omega
    go_enter Try.func11, Try.ntmps11
    go_wp2_with fail
    go_end0
    first | exact ⟨rfl, HF.out _⟩ | (rw [hm]; exact ⟨rfl, HF.out _⟩)
  · have hm : Sf.fuseOf n = -1 := by unfold Sf.fuseOf; omega
    subst h0
    go_enter Try.func11, Try.ntmps11
    go_wp2_with fail
    go_end0
    first | exact ⟨rfl, HF.out _⟩ | (rw [hm]; exact ⟨rfl, HF.out _⟩)
  · have hm : Sf.fuseOf n = n := by unfold Sf.fuseOf; omega
    go_enter Try.func11, Try.ntmps11
    go_wp2_with fail
    go_end0
    first | exact ⟨rfl, HF.out _⟩ | (rw [hm]; exact ⟨rfl, HF.out _⟩)
  · have hm : Sf.fuseOf n = 1073741824 := by unfold Sf.fuseOf; omega
    subst h0
    go_enter Try.func11, Try.ntmps11
    go_wp2_with fail
    go_end0
    first | exact ⟨rfl, HF.out _⟩ | (rw [hm]; exact ⟨rfl, HF.out _⟩)
  · have hm : Sf.fuseOf n = 1073741824 := by unfold Sf.fuseOf; omega
    go_enter Try.func11, Try.ntmps11
    go_wp2_with fail
    go_end0
    first | exact ⟨rfl, HF.out _⟩ | (rw [hm]; exact ⟨rfl, HF.out _⟩)
end Go.Proofs.Ytgpmomjdjakklaa
