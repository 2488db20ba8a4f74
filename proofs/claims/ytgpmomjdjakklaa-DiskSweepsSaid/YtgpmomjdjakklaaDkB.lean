/-
  Save, step by step: mathematics; what it keeps in the world.
-/
import Derived.Test.YtgpmomjdjakklaaDkA
import Derived.Defers
namespace Go.Proofs.Ytgpmomjdjakklaa
open Go.RowKit
namespace Sf
/-- on, if nothing erred -/
def bd (r : St × Int) (k : St → St × Int) : St × Int := if r.2 = 0 then k r.1 else r
theorem bd_ok {r : St × Int} {k : St → St × Int} (h : r.2 = 0) : bd r k = k r.1 := if_pos h
theorem bd_no {r : St × Int} {k : St → St × Int} (h : r.2 ≠ 0) : bd r k = r := if_neg h
def sv1 (S : St) (t : ByteArray) : St × Int := if (look S.names t).isSome = true then S.remove t else (S, 0)
def sv2 (S : St) (t : ByteArray) (y : Nat) : St × Int := bd (sv1 S t) fun T => T.create t y
def sv3 (S : St) (t : ByteArray) (y : Nat) (b : ByteArray) : St × Int := bd (sv2 S t y) fun T => T.append t b
def sv4 (S : St) (t : ByteArray) (y : Nat) (b : ByteArray) : St × Int := bd (sv3 S t y b) fun T => T.sync t
def sv5 (S : St) (t : ByteArray) (y : Nat) (b n : ByteArray) : St × Int := bd (sv4 S t y b) fun T => T.rename t n
def sv6 (S : St) (t : ByteArray) (y : Nat) (b n : ByteArray) : St × Int := bd (sv5 S t y b n) fun T => T.dirDo
/-- is it to be undone? -/
def und (S : St) (t : ByteArray) (y : Nat) (b n : ByteArray) : Bool := decide ((sv2 S t y).2 = 0) && decide ((sv5 S t y b n).2 ≠ 0)
/-- what is done behind all -/
def St.undo (S : St) (t : ByteArray) (u : Bool) (er : Int) : St := if u = true ∧ er ≠ 0 ∧ er ≠ 13 then (S.remove t).1 else S
/-- a file is saved; a new file would be at y -/
def St.save (S : St) (n b : ByteArray) (y : Nat) : St × Int :=
  ((sv6 S (tmp n) y b n).1.undo (tmp n) (und S (tmp n) y b n) (sv6 S (tmp n) y b n).2, (sv6 S (tmp n) y b n).2)
end Sf
/-- what Save keeps: boxes of the machine, of names and bytes, of what erred, and whether it is to be undone -/
structure Kept (w : World) (fb p : Nat) (n b t : ByteArray) (er : Int) (u : Bool) : Prop where
  f : w.heap[p]? = some (.cells #[.pointer (some ⟨fb, 0, none⟩)] 25 (0, 0))
  n : w.heap[p + 1]? = some (.cells #[.string n] 9 (0, 0))
  b : w.heap[p + 2]? = some (.cells #[.string b] 9 (0, 0))
  e : w.heap[p + 3]? = some (.cells #[.int .i64 er] 27 (0, 0))
  t : w.heap[p + 4]? = some (.cells #[.string t] 9 (0, 0))
  u : w.heap[p + 5]? = some (.cells #[.bool u] 4 (0, 0))
theorem Kept.stays {w w2 : World} {fb p : Nat} {n b t : ByteArray} {er : Int} {u : Bool} (h : Kept w fb p n b t er u) (hs : Stays w w2) : Kept w2 fb p n b t er u :=
  ⟨hs.block h.f (by decide), hs.block h.n (by decide), hs.block h.b (by decide), hs.block h.e (by decide), hs.block h.t (by decide), hs.block h.u (by decide)⟩
theorem Kept.far {w w2 : World} {fb p : Nat} {n b t : ByteArray} {er : Int} {u : Bool} (h : Kept w fb p n b t er u) (hb : Below w.heap.size w w2) : Kept w2 fb p n b t er u :=
  ⟨heap_keep h.f hb, heap_keep h.n hb, heap_keep h.b hb, heap_keep h.e hb, heap_keep h.t hb, heap_keep h.u hb⟩
/-- whether it is to be undone is written -/
theorem Kept.setU {w : World} {fb p : Nat} {n b t : ByteArray} {er : Int} {u : Bool} (h : Kept w fb p n b t er u) (v : Bool) : Kept (w.setCell ⟨p + 5, 0, none⟩ (.bool v)) fb p n b t er v := by
  have hg := grown_setCell w (p + 5) 0 (.bool v)
  exact ⟨grown_keep h.f hg (by omega), grown_keep h.n hg (by omega), grown_keep h.b hg (by omega), grown_keep h.e hg (by omega), grown_keep h.t hg (by omega), heap_setCell_same _ (p + 5) 0 _ _ _ h.u⟩
/-- what erred is written -/
theorem Kept.setE {w : World} {fb p : Nat} {n b t : ByteArray} {er : Int} {u : Bool} (h : Kept w fb p n b t er u) (v : Int) : Kept (w.setCell ⟨p + 3, 0, none⟩ (.int .i64 v)) fb p n b t v u := by
  have hg := grown_setCell w (p + 3) 0 (.int .i64 v)
  exact ⟨grown_keep h.f hg (by omega), grown_keep h.n hg (by omega), grown_keep h.b hg (by omega), heap_setCell_same _ (p + 3) 0 _ _ _ h.e, grown_keep h.t hg (by omega), grown_keep h.u hg (by omega)⟩
/-- all but one block, and what is a machine's own, stays as it was -/
def StaysX (g : Nat) (W W2 : World) : Prop := ∀ (j : Nat) (cs : Array Value) (T : TypeId) (fr : Nat × Nat), W.heap[j]? = some (.cells cs T fr) → j ≠ g → (T ≠ 50 ∧ T ≠ 66 ∧ T ≠ 58 ∧ T ≠ 88) → W2.heap[j]? = some (.cells cs T fr)
theorem Stays.x {W W2 : World} (h : Stays W W2) (g : Nat) : StaysX g W W2 := fun j cs T fr hj _ hT => h j cs T fr hj hT.1 hT.2.1 hT.2.2.1 hT.2.2.2
theorem StaysX.trans {g : Nat} {W W2 W3 : World} (h : StaysX g W W2) (h2 : StaysX g W2 W3) : StaysX g W W3 := fun j cs T fr hj hg hT => h2 j cs T fr (h j cs T fr hj hg hT) hg hT
theorem StaysX.set {g : Nat} {W W2 : World} (h : StaysX g W W2) (v : Value) : StaysX g W (W2.setCell ⟨g, 0, none⟩ v) := fun j cs T fr hj hg hT => grown_keep (h j cs T fr hj hg hT) (grown_setCell W2 g 0 v) hg
theorem Runs.setU {W : World} {base fb B N : Nat} {S : Sf.St} {wr : World} (h : Runs W base fb B N S wr) {p : Nat} {n b t : ByteArray} {er : Int} {u : Bool} (hk : Kept wr fb p n b t er u) (hp : W.heap.size ≤ p) (v : Bool) : Runs W base fb B N S (wr.setCell ⟨p + 5, 0, none⟩ (.bool v)) :=
  h.kept (grown_setCell wr (p + 5) 0 (.bool v)) (T := 4) (by decide) (fun g e => by cases e; exact ⟨_, _, hk.u⟩) (fun g e => by cases e; omega)
theorem Runs.setE {W : World} {base fb B N : Nat} {S : Sf.St} {wr : World} (h : Runs W base fb B N S wr) {p : Nat} {n b t : ByteArray} {er : Int} {u : Bool} (hk : Kept wr fb p n b t er u) (hp : W.heap.size ≤ p) (v : Int) : Runs W base fb B N S (wr.setCell ⟨p + 3, 0, none⟩ (.int .i64 v)) :=
  h.kept (grown_setCell wr (p + 3) 0 (.int .i64 v)) (T := 27) (by decide) (fun g e => by cases e; exact ⟨_, _, hk.e⟩) (fun g e => by cases e; omega)
section
variable {W : World} {base fb B N p : Nat} {S : Sf.St} {wr : World} {n b t : ByteArray} {er : Int} {u : Bool}
set_option maxRecDepth 100000 in
/-- the first step -/
theorem save2_any (h : Runs W base fb B N S wr) (hk : Kept wr fb p n b t er u) (hN : N ≤ 999) (ht : t.size ≤ maxLen) :
    Calls Try.prog 27 #[.pointer (some ⟨p, 0, none⟩), .pointer (some ⟨p + 4, 0, none⟩)] wr fun e w' => e = .returned (.int .i64 (Sf.sv1 S t).2) ∧ Runs W base fb B (N + 1) (Sf.sv1 S t).1 w' ∧ Kept w' fb p n b t er u ∧ Moves wr w' := by
  have c0 : wr.cell? ⟨p, 0, none⟩ = some (.pointer (some ⟨fb, 0, none⟩)) := cell_of_row _ _ _ _ _ _ hk.f
  have c1 : wr.cell? ⟨p + 4, 0, none⟩ = some (.string t) := cell_of_row _ _ _ _ _ _ hk.t
  have HI := Lib.hid (isThere_any h t)
  have HK := Lib.hid hk; have HR := Lib.hid h
  have e1 : Sf.sv1 S t = if (Sf.look S.names t).isSome = true then S.remove t else (S, 0) := rfl
  rw [e1]
  clear h hk e1
  generalize (Sf.look S.names t).isSome = r at *
  go_enter Try.func27, Try.ntmps27
  go_wp2_with fail
  refine HI.out.mono ?_; rintro e w1 ⟨rfl, hb⟩
  have HB := Lib.hid hb
  have d0 : w1.cell? ⟨p, 0, none⟩ = some (.pointer (some ⟨fb, 0, none⟩)) := cell_keep c0 hb
  have d1 : w1.cell? ⟨p + 4, 0, none⟩ = some (.string t) := cell_keep c1 hb
  clear hb c0 c1 HI
  cases r
  · go_wp2_with fail
    go_ret
    exact ⟨rfl, (HR.out.far HB.out).mono (Nat.le_refl _) (Nat.le_succ _), HK.out.far HB.out, Stays.below HB.out, HB.out.size⟩
  · have HRM := Lib.hid ((HR.out.far HB.out).remove hN t ht)
    go_wp2_with fail
    refine HRM.out.mono ?_; rintro e w2 ⟨rfl, hr, hst⟩
    have HF := Lib.hid hr; have HS := Lib.hid hst
    clear hr hst HRM d0 d1
    go_wp2_with fail
    go_ret
    exact ⟨rfl, HF.out, (HK.out.far HB.out).stays HS.out.st, (Stays.below HB.out).trans HS.out.st, Nat.le_trans HB.out.size HS.out.sz⟩
set_option maxRecDepth 100000 in
/-- the second one -/
theorem save3_any (h : Runs W base fb B N S wr) (hk : Kept wr fb p n b t er u) (hp : base ≤ p) (hN : N ≤ 999) (ht : t.size ≤ maxLen) :
    Calls Try.prog 29 #[.pointer (some ⟨p, 0, none⟩), .pointer (some ⟨p + 4, 0, none⟩), .pointer (some ⟨p + 5, 0, none⟩)] wr fun e w' => ∃ y, ¬ Sf.live S.synced S.chg y ∧ e = .returned (.int .i64 (S.create t y).2) ∧ Runs W base fb B (N + 1) (S.create t y).1 w' ∧ Kept w' fb p n b t er (decide ((S.create t y).2 = 0)) ∧ wr.heap.size ≤ w'.heap.size ∧ StaysX (p + 5) wr w' := by
  have c0 : wr.cell? ⟨p, 0, none⟩ = some (.pointer (some ⟨fb, 0, none⟩)) := cell_of_row _ _ _ _ _ _ hk.f
  have c1 : wr.cell? ⟨p + 4, 0, none⟩ = some (.string t) := cell_of_row _ _ _ _ _ _ hk.t
  have HC := Lib.hid (h.create hN t ht)
  have HK := Lib.hid hk
  have HP := Lib.hid (Nat.le_trans h.lo hp)
  clear h hk
  go_enter Try.func29, Try.ntmps29
  go_wp2_with fail
  refine HC.out.mono ?_; rintro e w1 ⟨y, hy, rfl, hr, hst⟩
  have HY := Lib.hid hy; have HR := Lib.hid hr
  have hk1 := HK.out.stays hst.st
  have HK1 := Lib.hid hk1
  have HZ := Lib.hid hst.sz
  have HSX := Lib.hid (hst.st.x (p + 5))
  have f0 : w1.frozen? ⟨p + 5, 0, none⟩ = false := frozen_of_row _ _ _ _ _ hk1.u
  have u0 : w1.cell? ⟨p + 5, 0, none⟩ = some (.bool u) := cell_of_row _ _ _ _ _ _ hk1.u
  have HFIN : Hid (∀ v : Bool, Runs W base fb B (N + 1) (S.create t y).1 (w1.setCell ⟨p + 5, 0, none⟩ (.bool v)) ∧ Kept (w1.setCell ⟨p + 5, 0, none⟩ (.bool v)) fb p n b t er v ∧ wr.heap.size ≤ (w1.setCell ⟨p + 5, 0, none⟩ (.bool v)).heap.size ∧ StaysX (p + 5) wr (w1.setCell ⟨p + 5, 0, none⟩ (.bool v))) := Lib.hid (fun v => ⟨HR.out.setU HK1.out HP.out v, HK1.out.setU v, Nat.le_trans HZ.out (grown_setCell w1 (p + 5) 0 (.bool v)).size, HSX.out.set _⟩)
  clear hy hr hst hk1 c0 c1 HC HR HK1 HK
  generalize hSC : S.create t y = SC at *
  have HSC := Lib.hid hSC
  clear hSC
  obtain ⟨S2, e2⟩ := SC
  by_cases he : e2 = 0
  · subst he
    go_wp2_with fail
    go_ret
    exact ⟨y, HY.out, by rw [HSC.out]; rfl, by rw [HSC.out]; exact HFIN.out true⟩
  · have q0 : (e2 == 0) = false := by simpa using he
    have q1 : decide (e2 = 0) = false := decide_eq_false he
    have HQ := Lib.hid q1
    clear he
    go_wp2_with fail
    go_ret
    exact ⟨y, HY.out, by rw [HSC.out]; rfl, by rw [HSC.out]; show _ ∧ Kept _ fb p n b t er (decide (e2 = 0)) ∧ _; rw [HQ.out]; exact HFIN.out false⟩
set_option maxRecDepth 100000 in
/-- the third one -/
theorem save4_any (h : Runs W base fb B N S wr) (hk : Kept wr fb p n b t er u) (hN : N ≤ 999) (hB : B ≤ 100000000) (ht : t.size ≤ maxLen) (hb : b.size ≤ 300) :
    Calls Try.prog 30 #[.pointer (some ⟨p, 0, none⟩), .pointer (some ⟨p + 4, 0, none⟩), .pointer (some ⟨p + 2, 0, none⟩)] wr fun e w' => e = .returned (.int .i64 (S.append t b).2) ∧ Runs W base fb (B + 300) (N + 1) (S.append t b).1 w' ∧ Kept w' fb p n b t er u ∧ Moves wr w' := by
  have c0 : wr.cell? ⟨p, 0, none⟩ = some (.pointer (some ⟨fb, 0, none⟩)) := cell_of_row _ _ _ _ _ _ hk.f
  have c1 : wr.cell? ⟨p + 4, 0, none⟩ = some (.string t) := cell_of_row _ _ _ _ _ _ hk.t
  have c2 : wr.cell? ⟨p + 2, 0, none⟩ = some (.string b) := cell_of_row _ _ _ _ _ _ hk.b
  have HC := Lib.hid (h.append hN hB t ht b hb)
  have HK := Lib.hid hk
  clear h hk
  go_enter Try.func30, Try.ntmps30
  go_wp2_with fail
  refine HC.out.mono ?_; rintro e w1 ⟨rfl, hr, hst⟩
  have HR := Lib.hid hr; have HS := Lib.hid hst
  clear hr hst c0 c1 c2 HC
  go_wp2_with fail
  go_ret
  exact ⟨rfl, HR.out, HK.out.stays HS.out.st, HS.out⟩
set_option maxRecDepth 100000 in
/-- the fourth one -/
theorem save5_any (h : Runs W base fb B N S wr) (hk : Kept wr fb p n b t er u) (hN : N ≤ 999) (ht : t.size ≤ maxLen) :
    Calls Try.prog 31 #[.pointer (some ⟨p, 0, none⟩), .pointer (some ⟨p + 4, 0, none⟩)] wr fun e w' => e = .returned (.int .i64 (S.sync t).2) ∧ Runs W base fb B (N + 1) (S.sync t).1 w' ∧ Kept w' fb p n b t er u ∧ Moves wr w' := by
  have c0 : wr.cell? ⟨p, 0, none⟩ = some (.pointer (some ⟨fb, 0, none⟩)) := cell_of_row _ _ _ _ _ _ hk.f
  have c1 : wr.cell? ⟨p + 4, 0, none⟩ = some (.string t) := cell_of_row _ _ _ _ _ _ hk.t
  have HC := Lib.hid (h.sync hN t ht)
  have HK := Lib.hid hk
  clear h hk
  go_enter Try.func31, Try.ntmps31
  go_wp2_with fail
  refine HC.out.mono ?_; rintro e w1 ⟨rfl, hr, hst⟩
  have HR := Lib.hid hr; have HS := Lib.hid hst
  clear hr hst c0 c1 HC
  go_wp2_with fail
  go_ret
  exact ⟨rfl, HR.out, HK.out.stays HS.out.st, HS.out⟩
set_option maxRecDepth 100000 in
/-- the fifth one -/
theorem save6_any (h : Runs W base fb B N S wr) (hk : Kept wr fb p n b t er u) (hp : base ≤ p) (hN : N ≤ 999) (ht : t.size ≤ maxLen) (hn : n.size ≤ maxLen) :
    Calls Try.prog 33 #[.pointer (some ⟨p, 0, none⟩), .pointer (some ⟨p + 4, 0, none⟩), .pointer (some ⟨p + 1, 0, none⟩), .pointer (some ⟨p + 5, 0, none⟩)] wr fun e w' => e = .returned (.int .i64 (S.rename t n).2) ∧ Runs W base fb B (N + 1) (S.rename t n).1 w' ∧ Kept w' fb p n b t er (decide ((S.rename t n).2 ≠ 0)) ∧ wr.heap.size ≤ w'.heap.size ∧ StaysX (p + 5) wr w' := by
  have c0 : wr.cell? ⟨p, 0, none⟩ = some (.pointer (some ⟨fb, 0, none⟩)) := cell_of_row _ _ _ _ _ _ hk.f
  have c1 : wr.cell? ⟨p + 4, 0, none⟩ = some (.string t) := cell_of_row _ _ _ _ _ _ hk.t
  have c2 : wr.cell? ⟨p + 1, 0, none⟩ = some (.string n) := cell_of_row _ _ _ _ _ _ hk.n
  have HC := Lib.hid (h.rename hN t n ht hn)
  have HK := Lib.hid hk
  have HP := Lib.hid (Nat.le_trans h.lo hp)
  clear h hk
  go_enter Try.func33, Try.ntmps33
  go_wp2_with fail
  refine HC.out.mono ?_; rintro e w1 ⟨rfl, hr, hst⟩
  have HR := Lib.hid hr
  have hk1 := HK.out.stays hst.st
  have HK1 := Lib.hid hk1
  have HZ := Lib.hid hst.sz
  have HSX := Lib.hid (hst.st.x (p + 5))
  have f0 : w1.frozen? ⟨p + 5, 0, none⟩ = false := frozen_of_row _ _ _ _ _ hk1.u
  have u0 : w1.cell? ⟨p + 5, 0, none⟩ = some (.bool u) := cell_of_row _ _ _ _ _ _ hk1.u
  have HFIN : Hid (∀ v : Bool, Runs W base fb B (N + 1) (S.rename t n).1 (w1.setCell ⟨p + 5, 0, none⟩ (.bool v)) ∧ Kept (w1.setCell ⟨p + 5, 0, none⟩ (.bool v)) fb p n b t er v ∧ wr.heap.size ≤ (w1.setCell ⟨p + 5, 0, none⟩ (.bool v)).heap.size ∧ StaysX (p + 5) wr (w1.setCell ⟨p + 5, 0, none⟩ (.bool v))) := Lib.hid (fun v => ⟨HR.out.setU HK1.out HP.out v, HK1.out.setU v, Nat.le_trans HZ.out (grown_setCell w1 (p + 5) 0 (.bool v)).size, HSX.out.set _⟩)
  clear hr hst hk1 c0 c1 c2 HC HR HK1 HK
  generalize hSC : S.rename t n = SC at *
  have HSC := Lib.hid hSC
  clear hSC
  obtain ⟨S2, e2⟩ := SC
  by_cases he : e2 = 0
  · subst he
    go_wp2_with fail
    go_ret
    exact ⟨by rw [HSC.out]; rfl, by rw [HSC.out]; exact HFIN.out false⟩
  · have q0 : (e2 != 0) = true := by simpa using he
    have q1 : (e2 == 0) = false := by simpa using he
    have q2 : decide (e2 = 0) = false := decide_eq_false he
    have HQ := Lib.hid (show decide (e2 ≠ 0) = true from decide_eq_true he)
    clear he
    go_wp2_with fail
    go_ret
    exact ⟨by rw [HSC.out]; rfl, by rw [HSC.out]; show _ ∧ Kept _ fb p n b t er (decide (e2 ≠ 0)) ∧ _; rw [HQ.out]; exact HFIN.out true⟩
set_option maxRecDepth 100000 in
/-- what is done behind all -/
theorem save1_any (m : FrameMode) (h : Runs W base fb B N S wr) (hk : Kept wr fb p n b t er u) (hN : N ≤ 999) (ht : t.size ≤ maxLen) :
    CallsD Try.prog 24 #[.pointer (some ⟨p + 5, 0, none⟩), .pointer (some ⟨p + 3, 0, none⟩), .pointer (some ⟨p, 0, none⟩), .pointer (some ⟨p + 4, 0, none⟩)] m wr fun e m' w' => m' = m ∧ (e = .returned (.tuple #[]) ∧ Runs W base fb B (N + 1) (S.undo t u er) w' ∧ Kept w' fb p n b t er u ∧ Moves wr w') := by
  have c0 : wr.cell? ⟨p + 5, 0, none⟩ = some (.bool u) := cell_of_row _ _ _ _ _ _ hk.u
  have c1 : wr.cell? ⟨p + 3, 0, none⟩ = some (.int .i64 er) := cell_of_row _ _ _ _ _ _ hk.e
  have c2 : wr.cell? ⟨p, 0, none⟩ = some (.pointer (some ⟨fb, 0, none⟩)) := cell_of_row _ _ _ _ _ _ hk.f
  have c3 : wr.cell? ⟨p + 4, 0, none⟩ = some (.string t) := cell_of_row _ _ _ _ _ _ hk.t
  have HK := Lib.hid hk
  have HR := Lib.hid h
  have HMV : Hid (Moves wr wr) := Lib.hid ⟨Stays.refl _, Nat.le_refl _⟩
  clear h hk
  cases u
  · go_enter_d Try.func24, Try.ntmps24
    go_wp2_with fail
    go_end0
    exact ⟨rfl, by rw [show S.undo t false er = S from if_neg (by simp)]; exact HR.out.mono (Nat.le_refl _) (Nat.le_succ _), HK.out, HMV.out⟩
  · by_cases he : er = 0
    · subst he
      go_enter_d Try.func24, Try.ntmps24
      go_wp2_with fail
      go_end0
      exact ⟨rfl, by rw [show S.undo t true 0 = S from if_neg (by simp)]; exact HR.out.mono (Nat.le_refl _) (Nat.le_succ _), HK.out, HMV.out⟩
    · by_cases h13 : er = 13
      · subst h13
        clear he
        go_enter_d Try.func24, Try.ntmps24
        go_wp2_with fail
        go_end0
        exact ⟨rfl, by rw [show S.undo t true 13 = S from if_neg (by simp)]; exact HR.out.mono (Nat.le_refl _) (Nat.le_succ _), HK.out, HMV.out⟩
      · have HC := Lib.hid (HR.out.remove hN t ht)
        have q0 : (er != 0) = true := by simpa using he
        have q1 : (er == 0) = false := by simpa using he
        have q2 : (er != 13) = true := by simpa using h13
        have q3 : (er == 13) = false := by simpa using h13
        have HIF : Hid (S.undo t true er = (S.remove t).1) := Lib.hid (if_pos ⟨rfl, he, h13⟩)
        clear he h13
        go_enter_d Try.func24, Try.ntmps24
        go_wp2_with fail
        refine HC.out.mono ?_; rintro e w1 ⟨rfl, hr, hst⟩
        have HR1 := Lib.hid hr; have HS := Lib.hid hst
        clear hr hst c0 c1 c2 c3 HC
        go_wp2_with fail
        go_end0
        exact ⟨rfl, by rw [HIF.out]; exact HR1.out, HK.out.stays HS.out.st, HS.out⟩
end
end Go.Proofs.Ytgpmomjdjakklaa
