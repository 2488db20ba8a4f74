import Derived.Test.YtfibapfehgglhaaGreatDoorSgF
import Derived.Defers
/-
  Files that are synced, one behind the other.
-/
namespace Go.Proofs.YtfibapfehgglhaaGreatDoor
open Go.RowKit Go.Maps
namespace Sf
/-- behind the syncs of the first names -/
structure Synced (S T : St) (l : List (List UInt8)) (j : Nat) : Prop where
  nam : T.names = S.names
  dead : T.dead = S.dead
  fuse : T.fuse = S.fuse
  bytes : ∀ x, (T.F x).bytes = (S.F x).bytes
  done : S.dead = false → ∀ i, i < j → ∀ x, look S.names (bs (l.getD i [])) = some x → T.F x = whole (S.F x).bytes
theorem Synced.zero (S : St) (l : List (List UInt8)) : Synced S S l 0 := ⟨rfl, rfl, rfl, fun _ => rfl, fun _ i hi => absurd hi (Nat.not_lt_zero i)⟩
theorem Synced.read {S T : St} {l : List (List UInt8)} {j : Nat} (h : Synced S T l j) (s : ByteArray) : T.read s = S.read s := by
  unfold St.read St.find
  rw [h.dead, h.nam]
  cases S.dead
  · cases look S.names s with
    | none => rfl
    | some x =>
      show ((T.F x).bytes, _) = ((S.F x).bytes, _)
      rw [h.bytes]
  · rfl
theorem Synced.succ {S T : St} {l : List (List UInt8)} {j x : Nat} (h : Synced S T l j) (hf : S.fuse = -1) (hx : look S.names (bs (l.getD j [])) = some x) : Synced S (T.sync (bs (l.getD j []))).1 l (j + 1) := by
  cases hd : S.dead
  · rw [sync_yes (h.dead.trans hd) (by rw [h.nam]; exact hx) (by rw [h.fuse, hf]; decide)]
    have hF : ∀ z, (T.tick.file x (whole (T.F x).bytes)).F z = if z = x then whole (S.F x).bytes else T.F z := fun z => by
      show (if z = x then whole (T.F x).bytes else T.F z) = _
      rw [h.bytes x]
    refine ⟨h.nam, h.dead, ?_, fun z => ?_, fun _ i hi z hz => ?_⟩
    · show (if 0 < T.fuse then T.fuse - 1 else T.fuse) = S.fuse
      rw [h.fuse, hf]
      rfl
    · rw [hF]
      split
      · rename_i e; rw [e]; rfl
      · exact h.bytes z
    · rw [hF]
      split
      · rename_i e; rw [e]
      · rename_i e
        have hij : i < j := by
          rcases Nat.lt_succ_iff_lt_or_eq.1 hi with h1 | h1
          · exact h1
          · rw [h1, hx] at hz
            exact absurd (Option.some.inj hz).symm e
        exact h.done hd i hij z hz
  · have e : T.sync (bs (l.getD j [])) = (T, 13) := by
      unfold St.sync
      rw [h.dead, hd]
      rfl
    rw [e]
    exact ⟨h.nam, h.dead, h.fuse, h.bytes, fun h2 => by rw [hd] at h2; cases h2⟩
theorem Synced.whole {S T : St} {j : Nat} (h : Synced S T (list S.names) j) (hj : (list S.names).length ≤ j) (hk : KS S.names) (hd : S.dead = false) : Whole (T.tick.dir) :=
  ⟨rfl, rfl, fun s x hx => by
    have hx2 : look S.names s = some x := by
      have : look T.names s = some x := hx
      rwa [h.nam] at this
    obtain ⟨i, hi, e⟩ := mem_list hk hx2
    exact ⟨_, h.done hd i (by omega) x (by rw [e]; exact hx2)⟩⟩
theorem dir_read (T : St) (s : ByteArray) : T.tick.dir.read s = T.read s := rfl
theorem Synced.again {S T : St} {j : Nat} (h : Synced S T (list S.names) j) (hj : (list S.names).length ≤ j) (hk : KS S.names) (hn : Nice S.names) (hd : S.dead = false) (k : Keep) {i : Nat} (hi : i < (list S.names).length) :
    (T.tick.dir.crash k).read (bs ((list S.names).getD i [])) = ((S.read (bs ((list S.names).getD i []))).1, 0) := by
  have hw := h.whole hj hk hd
  have e : T.tick.dir.names = S.names := h.nam
  have hd2 : T.tick.dir.dead = false := h.dead.trans hd
  have := again_read hw k (i := i) hd2 (by rw [e]; exact hn) (by rw [e]; exact hk) (by rw [e]; exact hi)
  rw [e, dir_read, h.read] at this
  exact this
end Sf
end Go.Proofs.YtfibapfehgglhaaGreatDoor
/-
  Texts that are among others; names of files that are not done; steps in order.
-/
namespace Go.Proofs.YtfibapfehgglhaaGreatDoor
open Go.RowKit
set_option maxRecDepth 100000 in
set_option maxHeartbeats 1000000 in
theorem Index_any (A : Option Addr) (c : Nat) (l : List (List UInt8)) (hn : l.length ≤ 1000) (s : ByteArray) (w : World) (hA : Row 1 (tx l) w A l.length) :
    Calls Tryz.prog 101 #[.slice A l.length c, .string s] w fun e w' => ∃ j : Int, e = .returned (.int .i64 j) ∧ decide (0 ≤ j) = decide (s.data.toList ∈ l) ∧ w' = w := by
  have HA := Lib.hid hA
  obtain ⟨n, hnl⟩ : ∃ n, n = l.length := ⟨_, rfl⟩
  rw [← hnl] at HA hn ⊢
  have HNL := Lib.hid hnl
  clear hA hnl
  go_enter Tryz.func101, Tryz.ntmps101
  go_wp2_with fail
  go_loopw [5, 8] (fun _ i wr => ∃ k : Nat, k ≤ n ∧ i = .int .i64 k ∧ (∀ i, i < k → l.getD i [] ≠ s.data.toList) ∧ wr = w) (fun _ i _ => n - (intOf i).toNat)
  case atStart => exact ⟨0, by omega, rfl, fun i hi => by omega, rfl⟩
  case round =>
    obtain ⟨k, hk, rfl, hall, rfl⟩ := hrel
    have HL := Lib.hid hall; clear hall
    by_cases hlt : k < n
    · obtain ⟨ad, rfl, c0, -⟩ := HA.out.at_ (Below.refl _ _) hlt
      have x0 := c0 (by decide)
      rw [Nat.mul_one, show tx l k 0 = .string (bs (l.getD k [])) from rfl] at x0
      have i1 : (k : Int) < (n : Int) := by omega
      have i0 : (0 : Int) ≤ (k : Int) := by omega
      have d1 : decide ((k : Int) < (n : Int)) = true := decide_eq_true i1
      clear c0
      have hmem : l.getD k [] ∈ l := by
        have h : k < l.length := by rw [← HNL.out]; exact hlt
        rw [show l.getD k [] = l[k] by simp [List.getD, h]]
        exact List.getElem_mem h
      by_cases he : l.getD k [] = s.data.toList
      · have HR : Hid (decide (s.data.toList ∈ l) = true) := Lib.hid (decide_eq_true (he ▸ hmem))
        have hbs : bs (l.getD k []) = s := by rw [he]; exact Sf.bs_data s
        rw [hbs] at x0
        have b0 : (s.toList == s.toList) = true := by simp
        clear he HL hmem hbs
        go_wp2_with fail
        go_ret
        exact ⟨(k : Int), rfl, by rw [HR.out]; exact decide_eq_true i0, rfl⟩
      · have HN : Hid (∀ i, i < k + 1 → l.getD i [] ≠ s.data.toList) := Lib.hid (fun i hi => by
          by_cases e : i = k
          · rw [e]; exact he
          · exact HL.out i (by omega))
        have hbs : s ≠ bs (l.getD k []) := fun e => he (by rw [e]; simp [bs])
        clear he HL hmem
        generalize bs (l.getD k []) = u at *
        have b0 : (s.toList == u.toList) = false := by rw [str_beq]; simpa using hbs
        clear hbs
        go_wp2_with fail
        go_roundw
        case rel => exact ⟨k + 1, by omega, by go_num, HN.out, trivial⟩
        case measure => simp [intOf]; omega
    · obtain rfl : k = n := by omega
      have d1 : decide ((k : Int) < (k : Int)) = false := by simp
      have HR : Hid (decide (s.data.toList ∈ l) = false) := Lib.hid (decide_eq_false (fun hm => by
        obtain ⟨i, hi, e⟩ := List.getElem_of_mem hm
        refine HL.out i (by rw [HNL.out]; exact hi) ?_
        rw [show l.getD i [] = l[i] by simp [List.getD, hi]]
        exact e))
      go_wp2_with fail
      go_ret
      exact ⟨-1, rfl, by rw [HR.out]; decide, rfl⟩
set_option maxRecDepth 100000 in
theorem Contains_any (A : Option Addr) (c : Nat) (l : List (List UInt8)) (hn : l.length ≤ 1000) (s : ByteArray) (w : World) (hA : Row 1 (tx l) w A l.length) :
    Calls Tryz.prog 59 #[.slice A l.length c, .string s] w fun e w' => e = .returned (.bool (decide (s.data.toList ∈ l))) ∧ w' = w := by
  have HI := Lib.hid (Index_any A c l hn s w hA)
  clear hA
  go_enter Tryz.func59, Tryz.ntmps59
  go_wp2_with fail
  refine HI.out.mono ?_; rintro e w1 ⟨j, rfl, hj, rfl⟩
  have HJ := Lib.hid hj
  clear hj HI
  go_wp2_with fail
  go_ret
  exact ⟨by rw [← HJ.out]; rfl, rfl⟩
def tmpN : ByteArray := ⟨#[116, 109, 112, 45]⟩
/-- the name of a file that is not done -/
def tmp (s : ByteArray) : ByteArray := tmpN ++ s
theorem tmp_size (s : ByteArray) : (tmp s).size = 4 + s.size := by unfold tmp; rw [ByteArray.size_append]; rfl
theorem Temp_any (s : ByteArray) (hs : s.size ≤ 1000) (w : World) : Calls Tryz.prog 77 #[.string s] w fun e w' => e = .returned (.string (tmp s)) ∧ w' = w := by
  have hz : ¬ 9223372036854775807 < (⟨#[116, 109, 112, 45]⟩ : ByteArray).size + s.size := by
    show ¬ 9223372036854775807 < 4 + s.size
    omega
  have hz2 : ¬ 9223372036854775807 < 4 + s.size := by omega
  go_enter Tryz.func77, Tryz.ntmps77
  go_wp2_with fail
  go_ret
  exact ⟨rfl, rfl⟩
theorem Sf.look_there {d : Sf.D} (hn : Sf.Nice d) (hk : Sf.KS d) (s : ByteArray) : decide (s.data.toList ∈ Sf.list d) = (Sf.look d s).isSome := by
  have e1 : s.data.toList ∈ Sf.list d ↔ Go.Maps.has d (Sf.key s) = true := ((List.mergeSort_perm (strKeys d) leB).mem_iff).trans (Sf.mem_keys hk _)
  cases hl : Sf.look d s with
  | none =>
    have := Sf.look_none hn.files hl
    exact decide_eq_false (fun h => by rw [e1, this] at h; cases h)
  | some x => exact decide_eq_true (e1.2 (Sf.look_some hl))
set_option maxRecDepth 100000 in
theorem isThere_any {W : World} {base fb B N : Nat} {S : Sf.St} {wr : World} (h : Runs W base fb B N S wr) (s : ByteArray) :
    Calls Tryz.prog 81 #[.pointer (some ⟨fb, 0, none⟩), .string s] wr fun e w' => e = .returned (.bool (Sf.look S.names s).isSome) ∧ Below wr.heap.size wr w' := by
  have HLI := Lib.hid h.list
  have HLT := Lib.hid (Sf.look_there h.ok.nice h.keys s)
  have hf := h.few
  clear h
  go_enter Tryz.func81, Tryz.ntmps81
  go_wp2_with fail
  refine HLI.out.mono ?_; rintro e w1 ⟨A, c, rfl, ht, hb⟩
  have HC := Lib.hid (Contains_any A c (Sf.list S.names) (by omega) s w1 ht.row)
  have HB := Lib.hid hb
  clear ht hb HLI
  go_wp2_with fail
  refine HC.out.mono ?_; rintro e w2 ⟨rfl, rfl⟩
  rw [HLT.out]
  go_wp2_with fail
  go_ret
  exact ⟨rfl, HB.out⟩
/-- steps in order, up to the first that errs -/
theorem inOrder_any (sb n c : Nat) (hn : n ≤ 100) (fn : Nat → Nat) (fst cap : Nat → Array Value) (I : Nat → World → Prop) (E : Int → World → Prop) (w : World) (h0 : I 0 w)
    (hcell : ∀ i W, i < n → I i W → W.cell? ⟨sb, i, none⟩ = some (.func (.func (fn i)) (fst i) (cap i)))
    (hent : ∀ i, i < n → ∀ args w, (callFunc (fn i) args).run Tryz.prog w = .ok (.enter (fn i) args) w)
    (hstep : ∀ i W, i < n → I i W → Calls Tryz.prog (fn i) (fst i ++ cap i) W fun e w' => ∃ er : Int, e = .returned (.int .i64 er) ∧ if er = 0 then I (i + 1) w' else E er w') :
    Calls Tryz.prog 45 #[.slice (some ⟨sb, 0, none⟩) n c] w fun e w' => ∃ er : Int, e = .returned (.int .i64 er) ∧ if er = 0 then I n w' else E er w' := by
  have HC := Lib.hid hcell; have HE := Lib.hid hent; have HS := Lib.hid hstep
  have H0 := Lib.hid h0
  clear hcell hent hstep h0
  go_enter Tryz.func45, Tryz.ntmps45
  go_wp2_with fail
  go_loopw [4, 5, 8] (fun _ _ i wr => ∃ k : Nat, k ≤ n ∧ i = .int .i64 k ∧ I k wr) (fun _ _ i _ => n - (intOf i).toNat)
  case atStart => exact ⟨0, by omega, rfl, H0.out⟩
  case round =>
    obtain ⟨k, hk, rfl, hi⟩ := hrel
    have HI := Lib.hid hi; clear hi
    by_cases hlt : k < n
    · have i1 : (k : Int) < (n : Int) := by omega
      have i0 : (0 : Int) ≤ (k : Int) := by omega
      have d1 : decide ((k : Int) < (n : Int)) = true := decide_eq_true i1
      have x0 := HC.out k wr hlt HI.out
      have he := HE.out k hlt
      have HCA := Lib.hid (HS.out k wr hlt HI.out)
      generalize fn k = f at *
      generalize fst k = a at *
      generalize cap k = p at *
      have HK1 : Hid (k + 1 ≤ n) := Lib.hid hlt
      go_wp2_with fail
      refine HCA.out.mono ?_; rintro e w3 ⟨er, rfl, hw⟩
      have HW := Lib.hid hw
      clear hw x0 he HCA HI
      by_cases h0 : er = 0
      · subst h0
        have HI3 : Hid (I (k + 1) w3) := Lib.hid (by have := HW.out; rwa [if_pos rfl] at this)
        clear HW
        go_wp2_with fail
        go_roundw
        case rel => exact ⟨k + 1, HK1.out, by go_num, HI3.out⟩
        case measure => simp [intOf]; omega
      · have d2 : (er != 0) = true := by simpa using h0
        have d3 : (er == 0) = false := by simpa using h0
        have d4 : decide (er = 0) = false := decide_eq_false h0
        have HH := Lib.hid h0
        clear h0
        go_wp2_with fail
        go_ret
        exact ⟨er, rfl, by have := HW.out; rw [if_neg HH.out] at this ⊢; exact this⟩
    · obtain rfl : k = n := by omega
      have d1 : decide ((k : Int) < (k : Int)) = false := by simp
      go_wp2_with fail
      go_ret
      exact ⟨0, rfl, by rw [if_pos rfl]; exact HI.out⟩
end Go.Proofs.YtfibapfehgglhaaGreatDoor
/-
  Save, step by step: mathematics; what it keeps in the world.
-/
namespace Go.Proofs.YtfibapfehgglhaaGreatDoor
open Go.RowKit
namespace Sf
/-- on, if nothing erred -/
def bd (r : St × Int) (k : St → St × Int) : St × Int := if r.2 = 0 then k r.1 else r
theorem bd_ok {r : St × Int} {k : St → St × Int} (h : r.2 = 0) : bd r k = k r.1 := if_pos h
theorem bd_no {r : St × Int} {k : St → St × Int} (h : r.2 ≠ 0) : bd r k = r := if_neg h
def sv1 (S : St) (t : ByteArray) : St × Int := if (look S.names t).isSome = true then S.remove t else (S, 0)
def sv2 (S : St) (t : ByteArray) (y : Nat) : St × Int := bd (sv1 S t) fun T => T.create t y
def sv3 (S : St) (t : ByteArray) (y : Nat) (b : ByteArray) : St × Int := bd (sv2 S t y) fun T => T.append t b
def sv4 (S : St) (t : ByteArray) (y : Nat) (b : ByteArray) : St × Int := bd (sv3 S t y b) fun T => T.sync t
def sv5 (S : St) (t : ByteArray) (y : Nat) (b n : ByteArray) : St × Int := bd (sv4 S t y b) fun T => T.rename t n
def sv6 (S : St) (t : ByteArray) (y : Nat) (b n : ByteArray) : St × Int := bd (sv5 S t y b n) fun T => T.dirDo
/-- is it to be undone? -/
def und (S : St) (t : ByteArray) (y : Nat) (b n : ByteArray) : Bool := decide ((sv2 S t y).2 = 0) && decide ((sv5 S t y b n).2 ≠ 0)
/-- what is done behind all -/
def St.undo (S : St) (t : ByteArray) (u : Bool) (er : Int) : St := if u = true ∧ er ≠ 0 ∧ er ≠ 13 then (S.remove t).1 else S
/-- a file is saved; a new file would be at y -/
def St.save (S : St) (n b : ByteArray) (y : Nat) : St × Int :=
  ((sv6 S (tmp n) y b n).1.undo (tmp n) (und S (tmp n) y b n) (sv6 S (tmp n) y b n).2, (sv6 S (tmp n) y b n).2)
end Sf
/-- what Save keeps: boxes of the machine, of names and bytes, of what erred, and whether it is to be undone -/
structure Kept (w : World) (fb p : Nat) (n b t : ByteArray) (er : Int) (u : Bool) : Prop where
  f : w.heap[p]? = some (.cells #[.pointer (some ⟨fb, 0, none⟩)] 28 (0, 0))
  n : w.heap[p + 1]? = some (.cells #[.string n] 9 (0, 0))
  b : w.heap[p + 2]? = some (.cells #[.string b] 9 (0, 0))
  e : w.heap[p + 3]? = some (.cells #[.int .i64 er] 23 (0, 0))
  t : w.heap[p + 4]? = some (.cells #[.string t] 9 (0, 0))
  u : w.heap[p + 5]? = some (.cells #[.bool u] 4 (0, 0))
theorem Kept.stays {w w2 : World} {fb p : Nat} {n b t : ByteArray} {er : Int} {u : Bool} (h : Kept w fb p n b t er u) (hs : Stays w w2) : Kept w2 fb p n b t er u :=
  ⟨hs.block h.f (by decide), hs.block h.n (by decide), hs.block h.b (by decide), hs.block h.e (by decide), hs.block h.t (by decide), hs.block h.u (by decide)⟩
theorem Kept.far {w w2 : World} {fb p : Nat} {n b t : ByteArray} {er : Int} {u : Bool} (h : Kept w fb p n b t er u) (hb : Below w.heap.size w w2) : Kept w2 fb p n b t er u :=
  ⟨heap_keep h.f hb, heap_keep h.n hb, heap_keep h.b hb, heap_keep h.e hb, heap_keep h.t hb, heap_keep h.u hb⟩
/-- whether it is to be undone is written -/
theorem Kept.setU {w : World} {fb p : Nat} {n b t : ByteArray} {er : Int} {u : Bool} (h : Kept w fb p n b t er u) (v : Bool) : Kept (w.setCell ⟨p + 5, 0, none⟩ (.bool v)) fb p n b t er v := by
  have hg := grown_setCell w (p + 5) 0 (.bool v)
  exact ⟨grown_keep h.f hg (by omega), grown_keep h.n hg (by omega), grown_keep h.b hg (by omega), grown_keep h.e hg (by omega), grown_keep h.t hg (by omega), heap_setCell_same _ (p + 5) 0 _ _ _ h.u⟩
/-- what erred is written -/
theorem Kept.setE {w : World} {fb p : Nat} {n b t : ByteArray} {er : Int} {u : Bool} (h : Kept w fb p n b t er u) (v : Int) : Kept (w.setCell ⟨p + 3, 0, none⟩ (.int .i64 v)) fb p n b t v u := by
  have hg := grown_setCell w (p + 3) 0 (.int .i64 v)
  exact ⟨grown_keep h.f hg (by omega), grown_keep h.n hg (by omega), grown_keep h.b hg (by omega), heap_setCell_same _ (p + 3) 0 _ _ _ h.e, grown_keep h.t hg (by omega), grown_keep h.u hg (by omega)⟩
/-- all but one block, and what is a machine's own, stays as it was -/
def StaysX (g : Nat) (W W2 : World) : Prop := ∀ (j : Nat) (cs : Array Value) (T : TypeId) (fr : Nat × Nat), W.heap[j]? = some (.cells cs T fr) → j ≠ g → (T ≠ 51 ∧ T ≠ 84 ∧ T ≠ 298 ∧ T ≠ 242) → W2.heap[j]? = some (.cells cs T fr)
theorem Stays.x {W W2 : World} (h : Stays W W2) (g : Nat) : StaysX g W W2 := fun j cs T fr hj _ hT => h j cs T fr hj hT.1 hT.2.1 hT.2.2.1 hT.2.2.2
theorem StaysX.trans {g : Nat} {W W2 W3 : World} (h : StaysX g W W2) (h2 : StaysX g W2 W3) : StaysX g W W3 := fun j cs T fr hj hg hT => h2 j cs T fr (h j cs T fr hj hg hT) hg hT
theorem StaysX.set {g : Nat} {W W2 : World} (h : StaysX g W W2) (v : Value) : StaysX g W (W2.setCell ⟨g, 0, none⟩ v) := fun j cs T fr hj hg hT => grown_keep (h j cs T fr hj hg hT) (grown_setCell W2 g 0 v) hg
theorem Runs.setU {W : World} {base fb B N : Nat} {S : Sf.St} {wr : World} (h : Runs W base fb B N S wr) {p : Nat} {n b t : ByteArray} {er : Int} {u : Bool} (hk : Kept wr fb p n b t er u) (hp : W.heap.size ≤ p) (v : Bool) : Runs W base fb B N S (wr.setCell ⟨p + 5, 0, none⟩ (.bool v)) :=
  h.kept (grown_setCell wr (p + 5) 0 (.bool v)) (T := 4) (by decide) (fun g e => by cases e; exact ⟨_, _, hk.u⟩) (fun g e => by cases e; omega)
theorem Runs.setE {W : World} {base fb B N : Nat} {S : Sf.St} {wr : World} (h : Runs W base fb B N S wr) {p : Nat} {n b t : ByteArray} {er : Int} {u : Bool} (hk : Kept wr fb p n b t er u) (hp : W.heap.size ≤ p) (v : Int) : Runs W base fb B N S (wr.setCell ⟨p + 3, 0, none⟩ (.int .i64 v)) :=
  h.kept (grown_setCell wr (p + 3) 0 (.int .i64 v)) (T := 23) (by decide) (fun g e => by cases e; exact ⟨_, _, hk.e⟩) (fun g e => by cases e; omega)
section
variable {W : World} {base fb B N p : Nat} {S : Sf.St} {wr : World} {n b t : ByteArray} {er : Int} {u : Bool}
set_option maxRecDepth 100000 in
/-- the first step -/
theorem save2_any (h : Runs W base fb B N S wr) (hk : Kept wr fb p n b t er u) (hN : N ≤ 999) (ht : t.size ≤ maxLen) :
    Calls Tryz.prog 80 #[.pointer (some ⟨p, 0, none⟩), .pointer (some ⟨p + 4, 0, none⟩)] wr fun e w' => e = .returned (.int .i64 (Sf.sv1 S t).2) ∧ Runs W base fb B (N + 1) (Sf.sv1 S t).1 w' ∧ Kept w' fb p n b t er u ∧ Moves wr w' := by
  have c0 : wr.cell? ⟨p, 0, none⟩ = some (.pointer (some ⟨fb, 0, none⟩)) := cell_of_row _ _ _ _ _ _ hk.f
  have c1 : wr.cell? ⟨p + 4, 0, none⟩ = some (.string t) := cell_of_row _ _ _ _ _ _ hk.t
  have HI := Lib.hid (isThere_any h t)
  have HK := Lib.hid hk; have HR := Lib.hid h
  have e1 : Sf.sv1 S t = if (Sf.look S.names t).isSome = true then S.remove t else (S, 0) := rfl
  rw [e1]
  clear h hk e1
  generalize (Sf.look S.names t).isSome = r at *
  go_enter Tryz.func80, Tryz.ntmps80
  go_wp2_with fail
  refine HI.out.mono ?_; rintro e w1 ⟨rfl, hb⟩
  have HB := Lib.hid hb
  have d0 : w1.cell? ⟨p, 0, none⟩ = some (.pointer (some ⟨fb, 0, none⟩)) := cell_keep c0 hb
  have d1 : w1.cell? ⟨p + 4, 0, none⟩ = some (.string t) := cell_keep c1 hb
  clear hb c0 c1 HI
  cases r
  · go_wp2_with fail
    go_ret
    exact ⟨rfl, (HR.out.far HB.out).mono (Nat.le_refl _) (Nat.le_succ _), HK.out.far HB.out, Stays.below HB.out, HB.out.size⟩
  · have HRM := Lib.hid ((HR.out.far HB.out).remove hN t ht)
    go_wp2_with fail
    refine HRM.out.mono ?_; rintro e w2 ⟨rfl, hr, hst⟩
    have HF := Lib.hid hr; have HS := Lib.hid hst
    clear hr hst HRM d0 d1
    go_wp2_with fail
    go_ret
    exact ⟨rfl, HF.out, (HK.out.far HB.out).stays HS.out.st, (Stays.below HB.out).trans HS.out.st, Nat.le_trans HB.out.size HS.out.sz⟩
set_option maxRecDepth 100000 in
/-- the second one -/
theorem save3_any (h : Runs W base fb B N S wr) (hk : Kept wr fb p n b t er u) (hp : base ≤ p) (hN : N ≤ 999) (ht : t.size ≤ maxLen) :
    Calls Tryz.prog 82 #[.pointer (some ⟨p, 0, none⟩), .pointer (some ⟨p + 4, 0, none⟩), .pointer (some ⟨p + 5, 0, none⟩)] wr fun e w' => ∃ y, ¬ Sf.live S.synced S.chg y ∧ e = .returned (.int .i64 (S.create t y).2) ∧ Runs W base fb B (N + 1) (S.create t y).1 w' ∧ Kept w' fb p n b t er (decide ((S.create t y).2 = 0)) ∧ wr.heap.size ≤ w'.heap.size ∧ StaysX (p + 5) wr w' := by
  have c0 : wr.cell? ⟨p, 0, none⟩ = some (.pointer (some ⟨fb, 0, none⟩)) := cell_of_row _ _ _ _ _ _ hk.f
  have c1 : wr.cell? ⟨p + 4, 0, none⟩ = some (.string t) := cell_of_row _ _ _ _ _ _ hk.t
  have HC := Lib.hid (h.create hN t ht)
  have HK := Lib.hid hk
  have HP := Lib.hid (Nat.le_trans h.lo hp)
  clear h hk
  go_enter Tryz.func82, Tryz.ntmps82
  go_wp2_with fail
  refine HC.out.mono ?_; rintro e w1 ⟨y, hy, rfl, hr, hst⟩
  have HY := Lib.hid hy; have HR := Lib.hid hr
  have hk1 := HK.out.stays hst.st
  have HK1 := Lib.hid hk1
  have HZ := Lib.hid hst.sz
  have HSX := Lib.hid (hst.st.x (p + 5))
  have f0 : w1.frozen? ⟨p + 5, 0, none⟩ = false := frozen_of_row _ _ _ _ _ hk1.u
  have u0 : w1.cell? ⟨p + 5, 0, none⟩ = some (.bool u) := cell_of_row _ _ _ _ _ _ hk1.u
  have HFIN : Hid (∀ v : Bool, Runs W base fb B (N + 1) (S.create t y).1 (w1.setCell ⟨p + 5, 0, none⟩ (.bool v)) ∧ Kept (w1.setCell ⟨p + 5, 0, none⟩ (.bool v)) fb p n b t er v ∧ wr.heap.size ≤ (w1.setCell ⟨p + 5, 0, none⟩ (.bool v)).heap.size ∧ StaysX (p + 5) wr (w1.setCell ⟨p + 5, 0, none⟩ (.bool v))) := Lib.hid (fun v => ⟨HR.out.setU HK1.out HP.out v, HK1.out.setU v, Nat.le_trans HZ.out (grown_setCell w1 (p + 5) 0 (.bool v)).size, HSX.out.set _⟩)
  clear hy hr hst hk1 c0 c1 HC HR HK1 HK
  generalize hSC : S.create t y = SC at *
  have HSC := Lib.hid hSC
  clear hSC
  obtain ⟨S2, e2⟩ := SC
  by_cases he : e2 = 0
  · subst he
    go_wp2_with fail
    go_ret
    exact ⟨y, HY.out, by rw [HSC.out]; rfl, by rw [HSC.out]; exact HFIN.out true⟩
  · have q0 : (e2 == 0) = false := by simpa using he
    have q1 : decide (e2 = 0) = false := decide_eq_false he
    have HQ := Lib.hid q1
    clear he
    go_wp2_with fail
    go_ret
    exact ⟨y, HY.out, by rw [HSC.out]; rfl, by rw [HSC.out]; show _ ∧ Kept _ fb p n b t er (decide (e2 = 0)) ∧ _; rw [HQ.out]; exact HFIN.out false⟩
set_option maxRecDepth 100000 in
/-- the third one -/
theorem save4_any (h : Runs W base fb B N S wr) (hk : Kept wr fb p n b t er u) (hN : N ≤ 999) (hB : B ≤ 100000000) (ht : t.size ≤ maxLen) (hb : b.size ≤ 300) :
    Calls Tryz.prog 84 #[.pointer (some ⟨p, 0, none⟩), .pointer (some ⟨p + 4, 0, none⟩), .pointer (some ⟨p + 2, 0, none⟩)] wr fun e w' => e = .returned (.int .i64 (S.append t b).2) ∧ Runs W base fb (B + 300) (N + 1) (S.append t b).1 w' ∧ Kept w' fb p n b t er u ∧ Moves wr w' := by
  have c0 : wr.cell? ⟨p, 0, none⟩ = some (.pointer (some ⟨fb, 0, none⟩)) := cell_of_row _ _ _ _ _ _ hk.f
  have c1 : wr.cell? ⟨p + 4, 0, none⟩ = some (.string t) := cell_of_row _ _ _ _ _ _ hk.t
  have c2 : wr.cell? ⟨p + 2, 0, none⟩ = some (.string b) := cell_of_row _ _ _ _ _ _ hk.b
  have HC := Lib.hid (h.append hN hB t ht b hb)
  have HK := Lib.hid hk
  clear h hk
  go_enter Tryz.func84, Tryz.ntmps84
  go_wp2_with fail
  refine HC.out.mono ?_; rintro e w1 ⟨rfl, hr, hst⟩
  have HR := Lib.hid hr; have HS := Lib.hid hst
  clear hr hst c0 c1 c2 HC
  go_wp2_with fail
  go_ret
  exact ⟨rfl, HR.out, HK.out.stays HS.out.st, HS.out⟩
set_option maxRecDepth 100000 in
/-- the fourth one -/
theorem save5_any (h : Runs W base fb B N S wr) (hk : Kept wr fb p n b t er u) (hN : N ≤ 999) (ht : t.size ≤ maxLen) :
    Calls Tryz.prog 86 #[.pointer (some ⟨p, 0, none⟩), .pointer (some ⟨p + 4, 0, none⟩)] wr fun e w' => e = .returned (.int .i64 (S.sync t).2) ∧ Runs W base fb B (N + 1) (S.sync t).1 w' ∧ Kept w' fb p n b t er u ∧ Moves wr w' := by
  have c0 : wr.cell? ⟨p, 0, none⟩ = some (.pointer (some ⟨fb, 0, none⟩)) := cell_of_row _ _ _ _ _ _ hk.f
  have c1 : wr.cell? ⟨p + 4, 0, none⟩ = some (.string t) := cell_of_row _ _ _ _ _ _ hk.t
  have HC := Lib.hid (h.sync hN t ht)
  have HK := Lib.hid hk
  clear h hk
  go_enter Tryz.func86, Tryz.ntmps86
  go_wp2_with fail
  refine HC.out.mono ?_; rintro e w1 ⟨rfl, hr, hst⟩
  have HR := Lib.hid hr; have HS := Lib.hid hst
  clear hr hst c0 c1 HC
  go_wp2_with fail
  go_ret
  exact ⟨rfl, HR.out, HK.out.stays HS.out.st, HS.out⟩
set_option maxRecDepth 100000 in
/-- the fifth one -/
theorem save6_any (h : Runs W base fb B N S wr) (hk : Kept wr fb p n b t er u) (hp : base ≤ p) (hN : N ≤ 999) (ht : t.size ≤ maxLen) (hn : n.size ≤ maxLen) :
    Calls Tryz.prog 87 #[.pointer (some ⟨p, 0, none⟩), .pointer (some ⟨p + 4, 0, none⟩), .pointer (some ⟨p + 1, 0, none⟩), .pointer (some ⟨p + 5, 0, none⟩)] wr fun e w' => e = .returned (.int .i64 (S.rename t n).2) ∧ Runs W base fb B (N + 1) (S.rename t n).1 w' ∧ Kept w' fb p n b t er (decide ((S.rename t n).2 ≠ 0)) ∧ wr.heap.size ≤ w'.heap.size ∧ StaysX (p + 5) wr w' := by
  have c0 : wr.cell? ⟨p, 0, none⟩ = some (.pointer (some ⟨fb, 0, none⟩)) := cell_of_row _ _ _ _ _ _ hk.f
  have c1 : wr.cell? ⟨p + 4, 0, none⟩ = some (.string t) := cell_of_row _ _ _ _ _ _ hk.t
  have c2 : wr.cell? ⟨p + 1, 0, none⟩ = some (.string n) := cell_of_row _ _ _ _ _ _ hk.n
  have HC := Lib.hid (h.rename hN t n ht hn)
  have HK := Lib.hid hk
  have HP := Lib.hid (Nat.le_trans h.lo hp)
  clear h hk
  go_enter Tryz.func87, Tryz.ntmps87
  go_wp2_with fail
  refine HC.out.mono ?_; rintro e w1 ⟨rfl, hr, hst⟩
  have HR := Lib.hid hr
  have hk1 := HK.out.stays hst.st
  have HK1 := Lib.hid hk1
  have HZ := Lib.hid hst.sz
  have HSX := Lib.hid (hst.st.x (p + 5))
  have f0 : w1.frozen? ⟨p + 5, 0, none⟩ = false := frozen_of_row _ _ _ _ _ hk1.u
  have u0 : w1.cell? ⟨p + 5, 0, none⟩ = some (.bool u) := cell_of_row _ _ _ _ _ _ hk1.u
  have HFIN : Hid (∀ v : Bool, Runs W base fb B (N + 1) (S.rename t n).1 (w1.setCell ⟨p + 5, 0, none⟩ (.bool v)) ∧ Kept (w1.setCell ⟨p + 5, 0, none⟩ (.bool v)) fb p n b t er v ∧ wr.heap.size ≤ (w1.setCell ⟨p + 5, 0, none⟩ (.bool v)).heap.size ∧ StaysX (p + 5) wr (w1.setCell ⟨p + 5, 0, none⟩ (.bool v))) := Lib.hid (fun v => ⟨HR.out.setU HK1.out HP.out v, HK1.out.setU v, Nat.le_trans HZ.out (grown_setCell w1 (p + 5) 0 (.bool v)).size, HSX.out.set _⟩)
  clear hr hst hk1 c0 c1 c2 HC HR HK1 HK
  generalize hSC : S.rename t n = SC at *
  have HSC := Lib.hid hSC
  clear hSC
  obtain ⟨S2, e2⟩ := SC
  by_cases he : e2 = 0
  · subst he
    go_wp2_with fail
    go_ret
    exact ⟨by rw [HSC.out]; rfl, by rw [HSC.out]; exact HFIN.out false⟩
  · have q0 : (e2 != 0) = true := by simpa using he
    have q1 : (e2 == 0) = false := by simpa using he
    have q2 : decide (e2 = 0) = false := decide_eq_false he
    have HQ := Lib.hid (show decide (e2 ≠ 0) = true from decide_eq_true he)
    clear he
    go_wp2_with fail
    go_ret
    exact ⟨by rw [HSC.out]; rfl, by rw [HSC.out]; show _ ∧ Kept _ fb p n b t er (decide (e2 ≠ 0)) ∧ _; rw [HQ.out]; exact HFIN.out true⟩
set_option maxRecDepth 100000 in
/-- what is done behind all -/
theorem save1_any (m : FrameMode) (h : Runs W base fb B N S wr) (hk : Kept wr fb p n b t er u) (hN : N ≤ 999) (ht : t.size ≤ maxLen) :
    CallsD Tryz.prog 78 #[.pointer (some ⟨p + 5, 0, none⟩), .pointer (some ⟨p + 3, 0, none⟩), .pointer (some ⟨p, 0, none⟩), .pointer (some ⟨p + 4, 0, none⟩)] m wr fun e m' w' => m' = m ∧ (e = .returned (.tuple #[]) ∧ Runs W base fb B (N + 1) (S.undo t u er) w' ∧ Kept w' fb p n b t er u ∧ Moves wr w') := by
  have c0 : wr.cell? ⟨p + 5, 0, none⟩ = some (.bool u) := cell_of_row _ _ _ _ _ _ hk.u
  have c1 : wr.cell? ⟨p + 3, 0, none⟩ = some (.int .i64 er) := cell_of_row _ _ _ _ _ _ hk.e
  have c2 : wr.cell? ⟨p, 0, none⟩ = some (.pointer (some ⟨fb, 0, none⟩)) := cell_of_row _ _ _ _ _ _ hk.f
  have c3 : wr.cell? ⟨p + 4, 0, none⟩ = some (.string t) := cell_of_row _ _ _ _ _ _ hk.t
  have HK := Lib.hid hk
  have HR := Lib.hid h
  have HMV : Hid (Moves wr wr) := Lib.hid ⟨Stays.refl _, Nat.le_refl _⟩
  clear h hk
  cases u
  · go_enter_d Tryz.func78, Tryz.ntmps78
    go_wp2_with fail
    go_end0
    exact ⟨rfl, by rw [show S.undo t false er = S from if_neg (by simp)]; exact HR.out.mono (Nat.le_refl _) (Nat.le_succ _), HK.out, HMV.out⟩
  · by_cases he : er = 0
    · subst he
      go_enter_d Tryz.func78, Tryz.ntmps78
      go_wp2_with fail
      go_end0
      exact ⟨rfl, by rw [show S.undo t true 0 = S from if_neg (by simp)]; exact HR.out.mono (Nat.le_refl _) (Nat.le_succ _), HK.out, HMV.out⟩
    · by_cases h13 : er = 13
      · subst h13
        clear he
        go_enter_d Tryz.func78, Tryz.ntmps78
        go_wp2_with fail
        go_end0
        exact ⟨rfl, by rw [show S.undo t true 13 = S from if_neg (by simp)]; exact HR.out.mono (Nat.le_refl _) (Nat.le_succ _), HK.out, HMV.out⟩
      · have HC := Lib.hid (HR.out.remove hN t ht)
        have q0 : (er != 0) = true := by simpa using he
        have q1 : (er == 0) = false := by simpa using he
        have q2 : (er != 13) = true := by simpa using h13
        have q3 : (er == 13) = false := by simpa using h13
        have HIF : Hid (S.undo t true er = (S.remove t).1) := Lib.hid (if_pos ⟨rfl, he, h13⟩)
        clear he h13
        go_enter_d Tryz.func78, Tryz.ntmps78
        go_wp2_with fail
        refine HC.out.mono ?_; rintro e w1 ⟨rfl, hr, hst⟩
        have HR1 := Lib.hid hr; have HS := Lib.hid hst
        clear hr hst c0 c1 c2 c3 HC
        go_wp2_with fail
        go_end0
        exact ⟨rfl, by rw [HIF.out]; exact HR1.out, HK.out.stays HS.out.st, HS.out⟩
end
end Go.Proofs.YtfibapfehgglhaaGreatDoor
