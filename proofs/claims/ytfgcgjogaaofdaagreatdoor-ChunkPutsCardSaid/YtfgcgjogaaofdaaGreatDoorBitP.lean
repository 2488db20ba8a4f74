/-
  What the function Put of package bits comes to.
-/
import Derived.Test.YtfgcgjogaaofdaaGreatDoorBitA
import Derived.Test.YtfgcgjogaaofdaaGreatDoorBitN
import Derived.Test.YtfgcgjogaaofdaaGreatDoorRoundAny
import Derived.StillTailTactics
import Derived.Outline
import Derived.Sort.CutIn
import Derived.Deep.DeepCutAuto
import Derived.RangeFuncBox
import Derived.Deep.AppendLies
namespace Go.Proofs.YtfgcgjogaaofdaaGreatDoor
open Go.RowKit Go.Shelf
attribute [local go_sem] Oper.semAt_some

theorem cell_block (A : Option Addr) (g : Nat) (h : A = some ⟨g, 0, none⟩) (n c : Nat) : (Value.slice A n c).ownBlock = some g := by rw [h]; rfl
theorem Tryz.info_u8 : (Tryz.prog.info? 5).map (fun i => (i.zero, i.size, i.bytes)) = some (some (.int .u8 0), 1, 1) := by kernel_rfl
/-- the bytes of a writer, in a row of the call's own -/
structure RowAt (W : World) (base p : Nat) (A : Option Addr) (cap : Nat) (n : Nat) (l : List UInt8) : Prop where
  cells : W.heap[p]? = some (.cells #[.slice A l.length cap, .int .i64 n] 117 (0, 0))
  own : W.ownsRow base 5 1 (.slice A l.length cap) l.length (byteVals l)
/-- a writer that has the bits B -/
def WrAt (W : World) (base p : Nat) (A : Option Addr) (cap : Nat) (B : List Bool) : Prop := RowAt W base p A cap B.length (Bit.pack B)
theorem RowAt.keep {W W2 : World} {base p cap n : Nat} {A : Option Addr} {l : List UInt8} (h : RowAt W base p A cap n l) (h0 : W2.heap[p]? = W.heap[p]?) (h1 : ∀ g, A = some ⟨g, 0, none⟩ → W2.heap[g]? = W.heap[g]?) : RowAt W2 base p A cap n l := by
  refine ⟨h0.trans h.cells, h.own.1, ?_⟩
  rcases h.own.2 with h2 | ⟨g, c, cur, hv, hb, hg, h3⟩
  · exact .inl h2
  · refine .inr ⟨g, c, cur, hv, hb, ?_, h3⟩
    simp only [Value.slice.injEq] at hv
    rw [h1 g hv.1, hg]
theorem RowAt.apart {W : World} {base p cap n : Nat} {A : Option Addr} {l : List UInt8} (h : RowAt W base p A cap n l) {g : Nat} (hA : A = some ⟨g, 0, none⟩) : g ≠ p := by
  subst hA
  rcases h.own.2 with ⟨h2, _⟩ | ⟨g2, c, cur, hv, hb, hg, h3⟩
  · simp at h2
  · simp only [Value.slice.injEq, Option.some.injEq, Addr.mk.injEq, and_true, true_and] at hv
    obtain ⟨rfl, _⟩ := hv
    rintro rfl
    have := hg.symm.trans h.cells
    simp at this
theorem RowAt.some_ {W : World} {base p cap n : Nat} {A : Option Addr} {l : List UInt8} (h : RowAt W base p A cap n l) (hl : 0 < l.length) : ∃ g, A = some ⟨g, 0, none⟩ ∧ base ≤ g ∧ g < W.heap.size ∧ g ≠ p := by
  rcases h.own.2 with ⟨h2, h3⟩ | ⟨g, c, cur, hv, hb, hg, h3⟩
  · omega
  · simp only [Value.slice.injEq] at hv
    exact ⟨g, hv.1, hb, (Array.getElem?_eq_some_iff.1 hg).1, h.apart hv.1⟩

theorem RowAt.later {W W2 : World} {base p cap n : Nat} {A : Option Addr} {l : List UInt8} (h : RowAt W base p A cap n l) (hk : ∀ k, k < W.heap.size → W2.heap[k]? = W.heap[k]?) : RowAt W2 base p A cap n l :=
  h.keep (hk p (Array.getElem?_eq_some_iff.1 h.cells).1) (fun g hg => by
    rcases h.own.2 with ⟨h2, _⟩ | ⟨g2, c, cur, hv, _, hg2, _⟩
    · rw [hg] at h2; simp at h2
    · simp only [Value.slice.injEq] at hv
      obtain rfl : g2 = g := by have := hg.symm.trans hv.1; simpa using this.symm
      exact hk g2 (Array.getElem?_eq_some_iff.1 hg2).1)
theorem own_ne {W : World} {base g k n cap : Nat} {e t : TypeId} {xs : List Value} {cs : Array Value} (h : W.ownsRow base e 1 (.slice (some ⟨g, 0, none⟩) n cap) n xs) (hk : W.heap[k]? = some (.cells cs t (0, 0))) (hne : e ≠ t) : g ≠ k := by
  rcases h.2 with ⟨h2, _⟩ | ⟨g2, c, cur, hv, hb, hg, h3⟩
  · simp at h2
  · simp only [Value.slice.injEq, Option.some.injEq, Addr.mk.injEq, and_true, true_and] at hv
    obtain ⟨rfl, _⟩ := hv
    rintro rfl
    have := hg.symm.trans hk
    simp at this
    exact hne this.2
theorem own_keep {W W2 : World} {A : Option Addr} {base k n cap : Nat} {e t : TypeId} {xs : List Value} {cs : Array Value} (h : W.ownsRow base e 1 (.slice A n cap) n xs) (hk : W.heap[k]? = some (.cells cs t (0, 0))) (hne : e ≠ t)
    (hg : W.grownBy W2 (Value.slice A n cap).ownBlock) : W2.heap[k]? = W.heap[k]? := by
  refine hg.block k (Array.getElem?_eq_some_iff.1 hk).1 (fun he => ?_)
  rcases h.2 with ⟨h2, _⟩ | ⟨g2, c, cur, hv, hb, hg2, h3⟩
  · rw [h2] at he; cases he
  · simp only [Value.slice.injEq] at hv
    obtain ⟨rfl, _⟩ := hv
    simp only [Value.ownBlock, Option.some.injEq] at he
    exact own_ne (cap := cap) h hk hne he.symm
/-- what a put may have turned: the writer, its bytes -/
def PutSet (p : Nat) (A : Option Addr) : Nat → Prop := fun k => k = p ∨ (A.map (·.block)) = some k
/-- its bytes lie where they lay, or anew -/
def NewRow (w : World) (A A2 : Option Addr) : Prop := A2 = A ∨ ∃ g, A2 = some ⟨g, 0, none⟩ ∧ w.heap.size ≤ g

/-- the blocks of a put's own: the writer, the number, how many bits of it are left -/
structure Puts (s p v r : Nat) (W : World) : Prop where
  w : W.heap[s]? = some (.cells #[.pointer (some ⟨p, 0, none⟩)] 100 (0, 0))
  v : W.heap[s + 1]? = some (.cells #[.int .u64 v] 28 (0, 0))
  n : W.heap[s + 2]? = some (.cells #[.int .i64 r] 3 (0, 0))
theorem Puts.keep {s p v r : Nat} {W W2 : World} (h : Puts s p v r W) (h0 : W2.heap[s]? = W.heap[s]?) (h1 : W2.heap[s + 1]? = W.heap[s + 1]?) (h2 : W2.heap[s + 2]? = W.heap[s + 2]?) : Puts s p v r W2 := ⟨h0.trans h.w, h1.trans h.v, h2.trans h.n⟩

/-- between two rounds of a put -/
structure PutAt (base p : Nat) (A : Option Addr) (B : List Bool) (v nn : Nat) (w : World) (x : Nat) (W : World) : Prop where
  lo : B.length ≤ x
  hi : x ≤ B.length + nn
  own : Puts w.heap.size p v (B.length + nn - x) W
  box : Boxes (w.heap.size + 3) B.length nn W
  row : ∃ A2 cap2, NewRow w A A2 ∧ WrAt W base p A2 cap2 (B ++ Bit.of (v / 2 ^ (B.length + nn - x)) (x - B.length))
  far : Far w W (PutSet p A)
  size : w.heap.size + 5 ≤ W.heap.size

theorem PutAt.kept {base p v nn x : Nat} {A : Option Addr} {B : List Bool} {w W W2 : World} {row : Option Nat} (h : PutAt base p A B v nn w x W) (hp : p < w.heap.size) (hg : W.grownBy W2 row)
    (hr : ∀ r, row = some r → w.heap.size + 5 ≤ r ∧ ∃ o : Obj, W.heap[r]? = some o ∧ o.isCells = false) : PutAt base p A B v nn w x W2 := by
  have hlow : ∀ k, k < w.heap.size + 5 → W2.heap[k]? = W.heap[k]? := fun k hk => hg.block k (by have := h.size; omega) (fun e => by have := (hr k e.symm).1; omega)
  obtain ⟨A2, cap2, hn, hrow⟩ := h.row
  refine ⟨h.lo, h.hi, h.own.keep (hlow _ (by omega)) (hlow _ (by omega)) (hlow _ (by omega)), h.box.keep (hlow _ (by omega)) (hlow _ (by omega)), ⟨A2, cap2, hn, hrow.keep (hlow p (by omega)) (fun g hgA => ?_)⟩,
    h.far.step hg (fun r e => .inr (by have := (hr r e).1; omega)), Nat.le_trans h.size hg.size⟩
  subst hgA
  rcases hrow.own.2 with ⟨h2, _⟩ | ⟨g2, c, cur, hv, _, hg2, _⟩
  · simp at h2
  · simp only [Value.slice.injEq, Option.some.injEq, Addr.mk.injEq, and_true, true_and] at hv
    obtain ⟨rfl, _⟩ := hv
    refine hg.block g (Array.getElem?_eq_some_iff.1 hg2).1 (fun e => ?_)
    obtain ⟨_, o, ho, hc⟩ := hr g e.symm
    rw [hg2] at ho
    cases ho
    cases hc
/-- in a round of a put, behind the byte that is begun -/
structure PutMid (base p : Nat) (A : Option Addr) (Bx : List Bool) (v r : Nat) (w : World) (W W2 : World) : Prop where
  own : Puts w.heap.size p v r W2
  row : ∃ A2 cap2, NewRow w A A2 ∧ RowAt W2 base p A2 cap2 Bx.length (Bit.pad Bx)
  far : Far w W2 (PutSet p A)
  size : W.heap.size ≤ W2.heap.size
  keeps : KeepsFrom (w.heap.size + 5) W W2
  bk : BoxKeep (w.heap.size + 3) W W2
theorem row_block {W : World} {base n cap : Nat} {A : Option Addr} {e : TypeId} {xs : List Value} (h : W.ownsRow base e 1 (.slice A n cap) n xs) {g : Nat} (hg : (Value.slice A n cap).ownBlock = some g) :
    A = some ⟨g, 0, none⟩ ∧ g < W.heap.size ∧ ∃ o : Obj, W.heap[g]? = some o ∧ o.isCells = true := by
  rcases h.2 with ⟨h2, _⟩ | ⟨g2, c, cur, hv, hb, hg2, h3⟩
  · rw [h2] at hg; cases hg
  · simp only [Value.slice.injEq] at hv
    obtain ⟨rfl, _⟩ := hv
    simp only [Value.ownBlock, Option.some.injEq] at hg
    subst hg
    exact ⟨rfl, (Array.getElem?_eq_some_iff.1 hg2).1, _, hg2, rfl⟩
theorem NewRow.in {w : World} {A A2 : Option Addr} (h : NewRow w A A2) {p g : Nat} (hA : A2 = some ⟨g, 0, none⟩) : PutSet p A g ∨ w.heap.size ≤ g := by
  rcases h with rfl | ⟨g2, h2, h3⟩
  · subst hA; exact .inl (.inr rfl)
  · rw [h2] at hA
    simp at hA
    exact .inr (hA ▸ h3)
theorem grown_undrew {W w1 : World} {row : Option Nat} (h : W.drew.grownBy w1 row) : W.grownBy w1 row := ⟨h.os, h.tape, h.output, h.size, h.block⟩
theorem mid_new {base p v nn cap2 cap3 g : Nat} {A A2 : Option Addr} {B Bx : List Bool} {w W w1 : World} {o : Obj} (hI : PutAt base p A B v nn w Bx.length W) (hR : WrAt W base p A2 cap2 Bx) (hN : NewRow w A A2) (hp : p < w.heap.size) (h8 : Bx.length % 8 = 0)
    (hown : w1.ownsRow base 5 1 (.slice (some ⟨g, 0, none⟩) ((Bit.pack Bx).length + 1) cap3) ((Bit.pack Bx).length + 1) (byteVals (Bit.pack Bx) ++ [.int .u8 0]))
    (hgrow : (W.alloc o).grownBy w1 (Value.slice A2 (Bit.pack Bx).length cap2).ownBlock) (hat : (Value.slice A2 (Bit.pack Bx).length cap2).ownBlock = some g ∨ g = (W.alloc o).heap.size) :
    w1.heap[w.heap.size]? = W.heap[w.heap.size]? ∧ w1.heap[p]? = W.heap[p]? ∧ PutMid base p A Bx v (B.length + nn - Bx.length) w W (w1.setCell ⟨p, 0, none⟩ (.slice (some ⟨g, 0, none⟩) ((Bit.pack Bx).length + 1) cap3)) := by
  have hsz := hI.size
  have old : ∀ {k : Nat} {cs : Array Value} {t : TypeId}, W.heap[k]? = some (.cells cs t (0, 0)) → 5 ≠ t → w1.heap[k]? = W.heap[k]? := fun {k cs t} hk ht => by
    have hl := (Array.getElem?_eq_some_iff.1 hk).1
    have ha := Below.heap_alloc W o k hl
    rw [own_keep (hR.own.alloc o) (ha.trans hk) ht hgrow, ha]
  have k0 := old hI.own.w (by decide)
  have k1 := old hI.own.v (by decide)
  have k2 := old hI.own.n (by decide)
  have k3 := old hI.box.1 (by decide)
  have k4 := old hI.box.2 (by decide)
  have kp := old hR.cells (by decide)
  have hw1p := kp.trans hR.cells
  have gp : g ≠ p := own_ne hown hw1p (by decide)
  have far : ∀ k, k ≠ p → (w1.setCell ⟨p, 0, none⟩ (.slice (some ⟨g, 0, none⟩) ((Bit.pack Bx).length + 1) cap3)).heap[k]? = w1.heap[k]? := fun k hk => heap_setCell_other w1 ⟨p, 0, none⟩ k _ hk
  have hs := hI.size
  have zs : W.heap.size ≤ w1.heap.size := by have := hgrow.size; simp at this; omega
  have gs : w1.grownBy (w1.setCell ⟨p, 0, none⟩ (.slice (some ⟨g, 0, none⟩) ((Bit.pack Bx).length + 1) cap3)) (some p) := grown_setCell w1 p 0 _
  refine ⟨k0, kp, hI.own.keep ((far _ (by omega)).trans k0) ((far _ (by omega)).trans k1) ((far _ (by omega)).trans k2), ⟨some ⟨g, 0, none⟩, cap3, ?_, ?_, ?_⟩, ?_, ?_, ?_, (far _ (by omega)).trans k3, (far _ (by omega)).trans k4⟩
  · rcases hat with h | h
    · rw [← (row_block hR.own h).1]; exact hN
    · exact .inr ⟨g, rfl, by rw [h]; simp; omega⟩
  · rw [Bit.pad_pack Bx h8, List.length_append]
    exact heap_setCell_same w1 p 0 _ _ _ hw1p
  · rw [Bit.pad_pack Bx h8, List.length_append, byteVals_append]
    exact hown.kept gs (by simp [Value.ownBlock]; exact gp)
  · refine ((hI.far.step (World.grownBy_alloc W o none) (fun r e => by cases e)).step hgrow (fun r e => ?_)).step gs (fun r e => by cases e; exact .inl (.inl rfl))
    exact hN.in (row_block hR.own e).1
  · have := gs.size; omega
  · refine (((KeepsOthers.alloc W o).trans (KeepsOthers.of_grownBy hgrow (fun j ob e ho => ?_))).trans (KeepsOthers.setCell w1 _ _)).from _
    obtain ⟨_, _, o2, h2, h3⟩ := row_block (hR.own.alloc o) e
    rw [h2] at ho; cases ho; exact h3
theorem PutAt.drew {base p v nn x : Nat} {A : Option Addr} {B : List Bool} {w W : World} (h : PutAt base p A B v nn w x W) (hp : p < w.heap.size) : PutAt base p A B v nn w x W.drew :=
  h.kept hp (grown_drew (grown_refl W none)) (fun r e => by cases e)
theorem mid_end {base p v nn cap3 g m sm r2 : Nat} {A : Option Addr} {B Bx : List Bool} {w W wc : World} (hI : PutAt base p A B v nn w Bx.length W) (hM : PutMid base p A Bx v (B.length + nn - Bx.length) w W wc)
    (hR : RowAt wc base p (some ⟨g, 0, none⟩) cap3 Bx.length (Bit.pad Bx)) (hN : NewRow w A (some ⟨g, 0, none⟩)) (hp : p < w.heap.size) (hm0 : 0 < m) (hm8 : Bx.length % 8 + m ≤ 8) (hme : Bx.length + m ≤ B.length + nn) (lo : B.length ≤ Bx.length)
    (hBX : B ++ Bit.of (v / 2 ^ (B.length + nn - Bx.length)) (Bx.length - B.length) = Bx) (hr : B.length + nn - (Bx.length + m) = r2)
    (hsm : Bit.at_ Bx (Bx.length / 8) + Bit.val (Bit.of (v / 2 ^ r2) m) * 2 ^ (8 - Bx.length % 8 - m) = sm) (hs2 : sm < 256) :
    KeepsFrom (w.heap.size + 5) W (((wc.setCell ⟨w.heap.size + 1 + 1, 0, none⟩ (.int .i64 r2)).setCell ⟨g, Bx.length / 8, none⟩ (.int .u8 sm)).setCell ⟨p, 1, none⟩ (.int .i64 ((Bx.length + m : Nat) : Int))) ∧
    BoxKeep (w.heap.size + 3) W (((wc.setCell ⟨w.heap.size + 1 + 1, 0, none⟩ (.int .i64 r2)).setCell ⟨g, Bx.length / 8, none⟩ (.int .u8 sm)).setCell ⟨p, 1, none⟩ (.int .i64 ((Bx.length + m : Nat) : Int))) ∧
    PutAt base p A B v nn w (Bx.length + m) (((wc.setCell ⟨w.heap.size + 1 + 1, 0, none⟩ (.int .i64 r2)).setCell ⟨g, Bx.length / 8, none⟩ (.int .u8 sm)).setCell ⟨p, 1, none⟩ (.int .i64 ((Bx.length + m : Nat) : Int))) := by
  have hgp := hR.apart rfl
  have g0 : g ≠ w.heap.size := own_ne hR.own hM.own.w (by decide)
  have g1 : g ≠ w.heap.size + 1 := own_ne hR.own hM.own.v (by decide)
  have g2 : g ≠ w.heap.size + 2 := own_ne hR.own hM.own.n (by decide)
  have b3 := hM.bk.1.trans hI.box.1
  have b4 := hM.bk.2.trans hI.box.2
  have g3 : g ≠ w.heap.size + 3 := own_ne hR.own b3 (by decide)
  have g4 : g ≠ w.heap.size + 4 := own_ne hR.own b4 (by decide)
  have s1 := grown_setCell wc (w.heap.size + 1 + 1) 0 (.int .i64 r2)
  have n1 := heap_setCell_same wc (w.heap.size + 1 + 1) 0 _ _ (.int .i64 r2) hM.own.n
  have f1 : ∀ k, k ≠ w.heap.size + 1 + 1 → (wc.setCell ⟨w.heap.size + 1 + 1, 0, none⟩ (.int .i64 r2)).heap[k]? = wc.heap[k]? := fun k hk => heap_setCell_other wc ⟨w.heap.size + 1 + 1, 0, none⟩ k _ hk
  have k1 : KeepsOthers wc (wc.setCell ⟨w.heap.size + 1 + 1, 0, none⟩ (.int .i64 r2)) := KeepsOthers.setCell _ _ _
  have r1 := hR.own.kept s1 (.inr (by simp [Value.ownBlock]; omega))
  generalize wc.setCell ⟨w.heap.size + 1 + 1, 0, none⟩ (.int .i64 r2) = W1 at *
  have s2 := grown_setCell W1 g (Bx.length / 8) (.int .u8 sm)
  have f2 : ∀ k, k ≠ g → (W1.setCell ⟨g, Bx.length / 8, none⟩ (.int .u8 sm)).heap[k]? = W1.heap[k]? := fun k hk => heap_setCell_other W1 ⟨g, Bx.length / 8, none⟩ k _ hk
  have k2 : KeepsOthers W1 (W1.setCell ⟨g, Bx.length / 8, none⟩ (.int .u8 sm)) := KeepsOthers.setCell _ _ _
  have r2' := (r1.stored (Bx.length / 8) (.int .u8 sm)).1
  generalize W1.setCell ⟨g, Bx.length / 8, none⟩ (.int .u8 sm) = W2 at *
  have s3 := grown_setCell W2 p 1 (.int .i64 ((Bx.length + m : Nat) : Int))
  have c2 : W2.heap[p]? = _ := (f2 p hgp.symm).trans ((f1 p (by omega)).trans hR.cells)
  have n3 := heap_setCell_same W2 p 1 _ _ (.int .i64 ((Bx.length + m : Nat) : Int)) c2
  have f3 : ∀ k, k ≠ p → (W2.setCell ⟨p, 1, none⟩ (.int .i64 ((Bx.length + m : Nat) : Int))).heap[k]? = W2.heap[k]? := fun k hk => heap_setCell_other W2 ⟨p, 1, none⟩ k _ hk
  have k3 : KeepsOthers W2 (W2.setCell ⟨p, 1, none⟩ (.int .i64 ((Bx.length + m : Nat) : Int))) := KeepsOthers.setCell _ _ _
  have r3 := r2'.kept s3 (.inr (by simp [Value.ownBlock]; omega))
  generalize W2.setCell ⟨p, 1, none⟩ (.int .i64 ((Bx.length + m : Nat) : Int)) = W3 at *
  have low : ∀ k, k ≠ p → k ≠ g → k ≠ w.heap.size + 2 → W3.heap[k]? = wc.heap[k]? := fun k h1 h2 h3 => (f3 k h1).trans ((f2 k h2).trans (f1 k h3))
  have hps : Bit.pad Bx = Bit.pad Bx := rfl
  have hstep := Bit.pack_step Bx (Bit.of (v / 2 ^ r2) m) (by rw [Bit.of_length]; exact hm0) (by rw [Bit.of_length]; exact hm8)
  rw [Bit.of_length, hsm] at hstep
  have hnew : B ++ Bit.of (v / 2 ^ r2) (Bx.length + m - B.length) = Bx ++ Bit.of (v / 2 ^ r2) m := by
    have e := Bit.of_more v r2 m (Bx.length - B.length)
    rw [show Bx.length - B.length + m = Bx.length + m - B.length from by omega, show r2 + m = B.length + nn - Bx.length from by omega] at e
    rw [← e, ← List.append_assoc, hBX]
  have hlen : (Bit.pack (Bx ++ Bit.of (v / 2 ^ r2) m)).length = (Bit.pad Bx).length := by rw [← hstep, List.length_set]
  refine ⟨hM.keeps.trans (((k1.trans k2).trans k3).from _), hM.bk.trans ⟨low _ (by omega) (by omega) (by omega), low _ (by omega) (by omega) (by omega)⟩, ?_⟩
  refine ⟨by omega, hme, ⟨(low _ (by omega) (by omega) (by omega)).trans hM.own.w, (low _ (by omega) (by omega) (by omega)).trans hM.own.v, ?_⟩, ⟨(low _ (by omega) (by omega) (by omega)).trans b3, (low _ (by omega) (by omega) (by omega)).trans b4⟩, ?_, ?_, ?_⟩
  · rw [hr]; exact (f3 _ (by omega)).trans ((f2 _ (by omega)).trans n1)
  · refine ⟨some ⟨g, 0, none⟩, cap3, hN, ?_⟩
    rw [hr, hnew]
    refine ⟨?_, ?_⟩
    · rw [n3, hlen]
      congr 3
      rw [List.length_append, Bit.of_length]
      rfl
    · rw [hlen]
      have e : byteVals (Bit.pack (Bx ++ Bit.of (v / 2 ^ r2) m)) = (byteVals (Bit.pad Bx)).set (Bx.length / 8) (.int .u8 sm) := by
        rw [← hstep]
        unfold byteVals
        rw [List.map_set]
        congr 2
        simp; omega
      rw [e]
      exact r3
  · exact ((hM.far.step s1 (fun r e => by cases e; exact .inr (by omega))).step s2 (fun r e => by cases e; exact hN.in rfl)).step s3 (fun r e => by cases e; exact .inl (.inl rfl))
  · have h1 := hI.size; have h2 := hM.size; have h3 := s1.size; have h4 := s2.size; have h5 := s3.size; omega
theorem putObj_other (W : World) (l k : Nat) (o : Obj) (h : k ≠ l) : (W.putObj l o).heap[k]? = W.heap[k]? := World.putObj_heap_other h

set_option maxRecDepth 100000 in
set_option maxHeartbeats 1000000 in
theorem Put_any (base p : Nat) (A : Option Addr) (cap : Nat) (B : List Bool) (hB : B.length ≤ 1099511627776) (v : Nat) (hv : Hid (v < 18446744073709551616)) (n : Int) (w : World) (hw : WrAt w base p A cap B) (hbase : base ≤ w.heap.size) :
    Calls Tryz.prog 81 #[.pointer (some ⟨p, 0, none⟩), .int .u64 v, .int .i64 n] w fun e w' => e = .returned (.tuple #[]) ∧
      ∃ A2 cap2, WrAt w' base p A2 cap2 (B ++ Bit.of v (Bit.wd n)) ∧ NewRow w A A2 ∧ Far w w' (PutSet p A) := by
  have hn := Bit.wd_le n
  have hW := width_any n
  generalize Bit.wd n = nn at *
  have HW := Lib.hid hW; clear hW
  have HWr := Lib.hid hw
  have hpl : p < w.heap.size := (Array.getElem?_eq_some_iff.1 hw.cells).1
  clear hw
  refine (callsIn_wide (n := 3)).1 ?_
  refine callsIn_of_wp_marks Tryz.func81 rfl trivial ?_ rfl
  simp only [Tryz.ntmps81, List.size_toArray, List.length_cons, List.length_nil, Nat.reduceAdd, Nat.reduceSub, Array.replicate_succ, Array.replicate_zero, List.push_toArray, List.append_toArray, List.nil_append, List.cons_append]
  refine wpIn_wide.2 ?_
  go_wp2_with fail
  refine (HW.out _).mono ?_; rintro e wx ⟨rfl, rfl⟩
  go_wp2_with fail
  have h3 := three_heap w (.cells #[.pointer (some ⟨p, 0, none⟩)] 100) (.cells #[.int .u64 v] 28) (.cells #[.int .i64 nn] 3)
  generalize ((w.alloc (.cells #[.pointer (some ⟨p, 0, none⟩)] 100)).alloc (.cells #[.int .u64 v] 28)).alloc (.cells #[.int .i64 nn] 3) = W3 at *
  obtain ⟨h30, h31, h32, hs3, hk3, hg3⟩ := h3
  have hp3 : Puts w.heap.size p v nn W3 := ⟨h30, h31, h32⟩
  have hf3 : Far w W3 (PutSet p A) := (Far.refl w _).step hg3 (fun r e => by cases e)
  have hw3 : WrAt W3 base p A cap B := HWr.out.later hk3
  clear h30 h31 h32 hk3 hg3
  have b0 : W3.cell? ⟨w.heap.size, 0, none⟩ = some (.pointer (some ⟨p, 0, none⟩)) := cell_of_row _ _ _ _ _ _ hp3.w
  have b2 : W3.cell? ⟨w.heap.size + 1 + 1, 0, none⟩ = some (.int .i64 nn) := cell_of_row _ _ _ _ _ _ hp3.n
  have c1 : W3.cell? ⟨p, 1, none⟩ = some (.int .i64 B.length) := cell_of_row _ _ _ _ _ _ hw3.cells
  have HF := Lib.hid hf3; have HP := Lib.hid hp3; have HS := Lib.hid hs3; have HW3 := Lib.hid hw3
  clear hf3 hp3 hs3 hw3
  refine plain_still_tail 5 (by kernel_rfl) (by kernel_rfl) ?_
  simp only [List.take_succ_cons, List.take_zero, List.drop_succ_cons, List.drop_zero]
  repeat still_step
  refine wpStill_nil ?_
  go_wp2_with fail
  have hd : W3.drew.heap.size = w.heap.size + 3 := HS.out
  refine (pieces_any B.length nn _).mono ?_; rintro e w5 ⟨rfl, hw5⟩
  rw [hd]
  have h5 := two_heap W3.drew (.cells #[.int .i64 B.length] 3) (.cells #[.int .i64 nn] 3)
  rw [← hw5, hd] at h5
  clear hw5
  obtain ⟨h50, h51, hs5, hk5, hg5⟩ := h5
  have start : PutAt base p A B v nn w B.length w5 :=
    ⟨Nat.le_refl _, by omega, by rw [Nat.add_sub_cancel_left]; exact HP.out.keep (hk5 _ (by omega)) (hk5 _ (by omega)) (hk5 _ (by omega)), ⟨h50, h51⟩,
      ⟨A, cap, .inl rfl, by rw [Nat.sub_self]; simp only [Bit.of, List.append_nil]; exact HW3.out.later (fun k hk => hk5 k (by have := HS.out; omega))⟩,
      HF.out.step (grown_trans (grown_drew (grown_refl W3 none)) hg5) (fun r e => by cases e), by omega⟩
  have ST := Lib.hid start
  clear start hk5 hg5 b0 b2 c1
  go_wp2_with fail
  have HB5 : Boxes (w.heap.size + 3) B.length nn w5 := ⟨h50, h51⟩
  refine (wpIn_wide (n := 3)).1 ?_
  refine' rangeV (gf := 102) (lb := #[.pointer (some ⟨w.heap.size + 3, 0, none⟩), .pointer (some ⟨w.heap.size + 3 + 1, 0, none⟩)]) rfl (enters_of Tryz.func102 (by kernel_rfl) rfl)
    (pieces_iter (w.heap.size + 3) B.length nn hB hn w5 HB5) (fun h k => h.trans k) ?ka ?kb (fun _ => rfl) (PutAt base p A B v nn w) (fun _ _ _ => False) ?hI (fun _ _ _ _ _ h _ _ => h) ST.out _ ?assign ?body ?done ?stop
  case ka =>
    intro o1 o2 _ _
    have t := two_heap w5 o1 o2
    exact ⟨t.2.2.2.1 _ (by omega), t.2.2.2.1 _ (by omega)⟩
  case kb =>
    intro W l o o2 hl _ _
    exact ⟨putObj_other _ _ _ _ (by omega), putObj_other _ _ _ _ (by omega)⟩
  case hI =>
    intro x W W2 row h hg hr
    exact h.kept hpl hg (fun r e => ⟨by have := (hr r e).1; omega, (hr r e).2⟩)
  case assign =>
    intro l x W K hK
    gi_wp2
    exact hK
  case body =>
    intro l x W hi hm
    have hxl : x < B.length + nn := of_decide_eq_true hm
    have hst : 0 < Bit.step (B.length + nn) x ∧ x % 8 + Bit.step (B.length + nn) x ≤ 8 ∧ x + Bit.step (B.length + nn) x ≤ B.length + nn := by unfold Bit.step; omega
    generalize Bit.step (B.length + nn) x = m at *
    obtain ⟨hm0, hm8, hme⟩ := hst
    have lo := hi.lo
    obtain ⟨A2, cap2, hnr, hrow⟩ := hi.row
    have hlen : (B ++ Bit.of (v / 2 ^ (B.length + nn - x)) (x - B.length)).length = x := by rw [List.length_append, Bit.of_length]; omega
    have HQ := Lib.hid (rfl : B ++ Bit.of (v / 2 ^ (B.length + nn - x)) (x - B.length) = _)
    generalize hBx : B ++ Bit.of (v / 2 ^ (B.length + nn - x)) (x - B.length) = Bx at *
    have HBX := Lib.hid hBx; clear hBx HQ
    subst hlen
    have b0 : W.cell? ⟨w.heap.size, 0, none⟩ = some (.pointer (some ⟨p, 0, none⟩)) := cell_of_row _ _ _ _ _ _ hi.own.w
    have c0 : W.cell? ⟨p, 0, none⟩ = some (.slice A2 (Bit.pack Bx).length cap2) := cell_of_row _ _ _ _ _ _ hrow.cells
    have hpk : (Bit.pack Bx).length = (Bx.length + 7) / 8 := Bit.pack_length Bx
    have HI := Lib.hid hi; have HR := Lib.hid hrow; have HNR := Lib.hid hnr
    clear hi hm hrow hnr
    obtain ⟨tt, ht, htt⟩ : ∃ tt : Bool, (((Bx.length : Int) / 8) == ((Bit.pack Bx).length : Int)) = tt ∧ (tt = true ↔ Bx.length % 8 = 0) := ⟨_, rfl, by rw [hpk]; simp; omega⟩
    have HPK := Lib.hid hpk; have HTT := Lib.hid htt; clear hpk htt
    obtain ⟨i0, hi0, hz0, hz1, hz2⟩ := info_parts Tryz.info_u8
    gi_upto_if 25 with fail
    gi_cut [] from 26 (fun W2 => PutMid base p A Bx v (B.length + nn - Bx.length) w W W2)
    case first =>
      cases tt with
      | false =>
        gi_wp2
        gi_meet
        have h8 : Bx.length % 8 ≠ 0 := fun h => (by have := HTT.out.2 h; cases this)
        exact ⟨HI.out.own, ⟨A2, cap2, HNR.out, by rw [← Bit.pack_pad Bx h8]; exact HR.out⟩, HI.out.far, Nat.le_refl _, KeepsFrom.refl _ _, rfl, rfl⟩
      | true =>
        have hx8 : Bx.length % 8 = 0 := HTT.out.1 rfl
        gi_wp2
        refine round_held (fun U => U.cell? ⟨w.heap.size, 0, none⟩ = some (.pointer (some ⟨p, 0, none⟩))) (by kernel_rfl) (by kernel_rfl) ?_
        refine wpAnyH_pick (by kernel_rfl) Only.panic (w := W.drew) b0 [0, 1, 2, 3] 6 _ _ (by kernel_rfl) ?_
        refine PickOk.value (v := .pointer (some ⟨p, 0, none⟩)) rfl rfl (by kernel_rfl) (fun U hU => (by go_simp)) ?_
        refine PickOk.value (v := .pointer (some ⟨p, 0, none⟩)) rfl rfl (by kernel_rfl) (fun U hU => (by go_simp)) ?_
        refine PickOk.value (v := .pointer (some ⟨p, 0, none⟩)) rfl rfl (by kernel_rfl) (fun U hU => (by go_simp)) ?_
        refine PickOk.value (v := .pointer (some ⟨p, 0, none⟩)) rfl rfl (by kernel_rfl) (fun U hU => (by go_simp)) ?_
        simp only [PickOk, Act.put, List.setIfInBounds_toArray]
        have hsl : w.heap.size < W.heap.size := by have := HI.out.size; omega
        have b0a : ∀ o, (W.alloc o).cell? ⟨w.heap.size, 0, none⟩ = some (.pointer (some ⟨p, 0, none⟩)) := fun o => (World.cell?_alloc_lt W o _ hsl).trans b0
        have c0a : ∀ o, (W.alloc o).cell? ⟨p, 0, none⟩ = some (.slice A2 (Bit.pack Bx).length cap2) := fun o => (World.cell?_alloc_lt W o _ (by show p < _; omega)).trans c0
        refine wpAnyH_two (i := 4) (j := 5) (by kernel_rfl) rfl rfl (by kernel_rfl) (by kernel_rfl) ?_ ?_
        · intro K hK
          unfold Oper.wp
          go_simp
          refine hK _ _ (by go_simp) (fun _ => ?_)
          clear hK K
          refine wpAnyH_one (i := 5) (by kernel_rfl) rfl (by kernel_rfl) ?_
          intro K hK
          unfold Oper.wp
          go_simp
          refine hK _ _ (by go_simp) (fun _ => ?_)
          clear hK K
          refine wpAnyH_one (i := 6) (by kernel_rfl) rfl (by kernel_rfl) ?_
          intro K hK
          refine wp_append_lies _ (.tmp 30) (.tmp 31) 60 rfl base 5 i0 (.int .u8 0) 1 1 Tryz.underlying60 hi0 hz0 hz1 hz2 rfl (by decide) (.slice A2 (Bit.pack Bx).length cap2) (Bit.pack Bx).length (byteVals (Bit.pack Bx)) rfl (HR.out.own.alloc _)
            ⟨W.heap.size, 0, none⟩ 1 1 [.int .u8 0] rfl rfl (cell_one_new _ _ _) (by simp [Value.oneCell']) (by decide) (by have := HPK.out; unfold maxLen; omega) (by have := HPK.out; omega) (by have := HI.out.size; simp; omega) _ rfl ?_
          intro g cap3 w1 hown1 hgrow hat hlt
          have hmid := mid_new (o := .cells #[.int .u8 0] 5) HI.out HR.out HNR.out hpl hx8 hown1 (grown_undrew hgrow) hat
          obtain ⟨m0, mp, hm2⟩ := hmid
          have d0 : w1.cell? ⟨w.heap.size, 0, none⟩ = some (.pointer (some ⟨p, 0, none⟩)) := cell_of_row _ _ _ _ _ _ (m0.trans HI.out.own.w)
          have d1 : w1.cell? ⟨p, 0, none⟩ = some (.slice A2 (Bit.pack Bx).length cap2) := cell_of_row _ _ _ _ _ _ (mp.trans HR.out.cells)
          have d2 : w1.frozen? ⟨p, 0, none⟩ = false := frozen_of_row _ _ _ _ _ (mp.trans HR.out.cells)
          have d3 : (w1.setCell ⟨p, 0, none⟩ (.slice (some ⟨g, 0, none⟩) ((Bit.pack Bx).length + 1) cap3)).cell? ⟨w.heap.size, 0, none⟩ = some (.pointer (some ⟨p, 0, none⟩)) := cell_of_row _ _ _ _ _ _ hm2.own.w
          have HM2 := Lib.hid hm2; clear hown1 hgrow hat hm2 m0 mp
          refine hK _ _ d0 (fun _ => ?_)
          clear hK K
          simp only [Act.put, List.setIfInBounds_toArray]
          refine wpAnyH_one (i := 7) (by kernel_rfl) rfl (by kernel_rfl) ?_
          intro K hK
          unfold Oper.wp
          go_simp
          refine hK _ _ d0 (fun _ => ?_)
          clear hK K
          refine wpAnyH_one (i := 8) (by kernel_rfl) rfl (by kernel_rfl) ?_
          intro K hK
          unfold Oper.wp
          go_simp
          refine hK _ _ d0 (fun _ => ?_)
          clear hK K
          refine wpAnyH_one (i := 9) (by kernel_rfl) rfl (by kernel_rfl) ?_
          intro K hK
          unfold Oper.wp
          go_simp
          refine hK _ _ d3 (fun _ => ?_)
          clear hK K
          refine wpAnyH_done (by kernel_rfl) ?_ _
          refine Only.next ?_
          gi_wp2
          gi_meet
          exact HM2.out
        · intro K hK
          unfold Oper.wp
          go_simp
          refine hK _ _ (by go_simp) (fun _ => ?_)
          clear hK K
          refine wpAnyH_one (i := 4) (by kernel_rfl) rfl (by kernel_rfl) ?_
          intro K hK
          unfold Oper.wp
          go_simp
          refine hK _ _ (by go_simp) (fun _ => ?_)
          clear hK K
          refine wpAnyH_one (i := 6) (by kernel_rfl) rfl (by kernel_rfl) ?_
          intro K hK
          refine wp_append_lies _ (.tmp 30) (.tmp 31) 60 rfl base 5 i0 (.int .u8 0) 1 1 Tryz.underlying60 hi0 hz0 hz1 hz2 rfl (by decide) (.slice A2 (Bit.pack Bx).length cap2) (Bit.pack Bx).length (byteVals (Bit.pack Bx)) rfl (HR.out.own.alloc _)
            ⟨W.heap.size, 0, none⟩ 1 1 [.int .u8 0] rfl rfl (cell_one_new _ _ _) (by simp [Value.oneCell']) (by decide) (by have := HPK.out; unfold maxLen; omega) (by have := HPK.out; omega) (by have := HI.out.size; simp; omega) _ rfl ?_
          intro g cap3 w1 hown1 hgrow hat hlt
          have hmid := mid_new (o := .cells #[.int .u8 0] 5) HI.out HR.out HNR.out hpl hx8 hown1 (grown_undrew hgrow) hat
          obtain ⟨m0, mp, hm2⟩ := hmid
          have d0 : w1.cell? ⟨w.heap.size, 0, none⟩ = some (.pointer (some ⟨p, 0, none⟩)) := cell_of_row _ _ _ _ _ _ (m0.trans HI.out.own.w)
          have d1 : w1.cell? ⟨p, 0, none⟩ = some (.slice A2 (Bit.pack Bx).length cap2) := cell_of_row _ _ _ _ _ _ (mp.trans HR.out.cells)
          have d2 : w1.frozen? ⟨p, 0, none⟩ = false := frozen_of_row _ _ _ _ _ (mp.trans HR.out.cells)
          have d3 : (w1.setCell ⟨p, 0, none⟩ (.slice (some ⟨g, 0, none⟩) ((Bit.pack Bx).length + 1) cap3)).cell? ⟨w.heap.size, 0, none⟩ = some (.pointer (some ⟨p, 0, none⟩)) := cell_of_row _ _ _ _ _ _ hm2.own.w
          have HM2 := Lib.hid hm2; clear hown1 hgrow hat hm2 m0 mp
          refine hK _ _ d0 (fun _ => ?_)
          clear hK K
          simp only [Act.put, List.setIfInBounds_toArray]
          refine wpAnyH_one (i := 7) (by kernel_rfl) rfl (by kernel_rfl) ?_
          intro K hK
          unfold Oper.wp
          go_simp
          refine hK _ _ d0 (fun _ => ?_)
          clear hK K
          refine wpAnyH_one (i := 8) (by kernel_rfl) rfl (by kernel_rfl) ?_
          intro K hK
          unfold Oper.wp
          go_simp
          refine hK _ _ d0 (fun _ => ?_)
          clear hK K
          refine wpAnyH_one (i := 9) (by kernel_rfl) rfl (by kernel_rfl) ?_
          intro K hK
          unfold Oper.wp
          go_simp
          refine hK _ _ d3 (fun _ => ?_)
          clear hK K
          refine wpAnyH_done (by kernel_rfl) ?_ _
          refine Only.next ?_
          gi_wp2
          gi_meet
          exact HM2.out
    case rest =>
      obtain ⟨A3, cap3, hnr3, hrow3⟩ := hcut.row
      have e0 : wc.cell? ⟨w.heap.size, 0, none⟩ = some (.pointer (some ⟨p, 0, none⟩)) := cell_of_row _ _ _ _ _ _ hcut.own.w
      have e1 : wc.cell? ⟨w.heap.size + 1, 0, none⟩ = some (.int .u64 v) := cell_of_row _ _ _ _ _ _ hcut.own.v
      have e2 : wc.cell? ⟨w.heap.size + 1 + 1, 0, none⟩ = some (.int .i64 ((B.length + nn - Bx.length : Nat) : Int)) := cell_of_row _ _ _ _ _ _ hcut.own.n
      have f2 : wc.frozen? ⟨w.heap.size + 1 + 1, 0, none⟩ = false := frozen_of_row _ _ _ _ _ hcut.own.n
      have p0 : wc.cell? ⟨p, 0, none⟩ = some (.slice A3 (Bit.pad Bx).length cap3) := cell_of_row _ _ _ _ _ _ hrow3.cells
      have p1 : wc.cell? ⟨p, 1, none⟩ = some (.int .i64 Bx.length) := cell_of_row _ _ _ _ _ _ hrow3.cells
      have HC := Lib.hid hcut; have HR3 := Lib.hid hrow3; have HN3 := Lib.hid hnr3; clear hcut hrow3 hnr3
      obtain ⟨g, hA3, hg1, hg2, hg3⟩ := HR3.out.some_ (by rw [Bit.pad_length]; omega)
      subst hA3
      have hpl8 := Bit.pad_length Bx
      have hob := Bit.at_lt Bx (Bx.length / 8)
      have hlow := Bit.at_low Bx
      have hgc : wc.cell? ⟨g, Bx.length / 8, none⟩ = some (.int .u8 ((Bit.at_ Bx (Bx.length / 8) : Nat) : Int)) := by
        rw [HR3.out.own.cellAt (Bx.length / 8) (by rw [hpl8]; omega)]
        simp only [byteVals, List.getElem?_map, Bit.pad_get, Option.map_some]
        simp; omega
      have hgf : wc.frozen? ⟨g, Bx.length / 8, none⟩ = false := HR3.out.own.frozenAt _
      have hgs : g ≠ w.heap.size + 2 := own_ne HR3.out.own HC.out.own.n (by decide)
      have hgs0 : g ≠ w.heap.size := own_ne HR3.out.own HC.out.own.w (by decide)
      have hgs1 : g ≠ w.heap.size + 1 := own_ne HR3.out.own HC.out.own.v (by decide)
      generalize hobe : Bit.at_ Bx (Bx.length / 8) = ob at *
      have HOB := Lib.hid hobe; clear hobe
      have HLOW := Lib.hid hlow; clear hlow
      have i1 : (0 : Int) ≤ (Bx.length : Int) / 8 := by omega
      have i2 : (Bx.length : Int) / 8 < ((Bit.pad Bx).length : Int) := by omega
      have HPL8 := Lib.hid hpl8; clear hpl8
      have i3 : ((Bx.length : Int) / 8).toNat = Bx.length / 8 := by omega
      have er : ((B.length + nn - Bx.length : Nat) : Int) - (m : Int) = ((B.length + nn - (Bx.length + m) : Nat) : Int) := by omega
      gi_upto_region 8 with fail
      clear er
      generalize hr2 : B.length + nn - (Bx.length + m) = r2 at *
      have HR2 := Lib.hid hr2; clear hr2
      have hr2m : r2 ≤ 64 := by have := HR2.out; omega
      obtain ⟨W8, hW8⟩ : ∃ W8, wc.setCell ⟨w.heap.size + 1 + 1, 0, none⟩ (.int .i64 (r2 : Int)) = W8 := ⟨_, rfl⟩
      rw [hW8]
      have far8 : ∀ k, k ≠ w.heap.size + 2 → W8.heap[k]? = wc.heap[k]? := fun k hk => by rw [← hW8]; exact heap_setCell_other wc _ k _ hk
      have cell8 : ∀ k o x, k ≠ w.heap.size + 2 → wc.cell? ⟨k, o, none⟩ = some x → W8.cell? ⟨k, o, none⟩ = some x := fun k o x hk h => (World.cell?_of_block (far8 k hk)).trans h
      have q0 := cell8 _ _ _ (by omega) e0
      have q1 := cell8 _ _ _ (by omega) e1
      have q3 := cell8 _ _ _ (by omega) p0
      have q4 := cell8 _ _ _ (by omega) p1
      have q5 := cell8 _ _ _ hgs hgc
      have q2 : W8.cell? ⟨w.heap.size + 1 + 1, 0, none⟩ = some (.int .i64 (r2 : Int)) := by rw [← hW8]; exact World.cell?_setCell_same' _ _ _ (by rw [e2]; rfl)
      have q6 : W8.frozen? ⟨g, Bx.length / 8, none⟩ = false := by rw [← hW8, World.frozen?_setCell]; exact hgf
      have HW8 := Lib.hid hW8; have HF8 := Lib.hid far8
      clear hW8 far8 cell8 e0 e1 e2 p0 p1 hgc hgf b0 c0
      -- the arithmetic of the byte
      have hvq : v / 2 ^ r2 < 18446744073709551616 := Nat.lt_of_le_of_lt (Nat.div_le_self _ _) hv.out
      have ev : (v : Int) / 2 ^ r2 = ((v / 2 ^ r2 : Nat) : Int) := by rw [Int.natCast_ediv, Int.natCast_pow]; rfl
      have hvl : Bit.val (Bit.of (v / 2 ^ r2) m) = v / 2 ^ r2 % 2 ^ m := Bit.val_of _ _
      have hLQ := fun W => low_any (v / 2 ^ r2) m (Lib.hid hvq) (by omega) W
      have hcm : v / 2 ^ r2 % 2 ^ m < 2 ^ m := Nat.mod_lt _ (Nat.two_pow_pos m)
      generalize hvqe : v / 2 ^ r2 = vq at *
      generalize hce : vq % 2 ^ m = c at *
      have ek : (8 : Int) - (Bx.length : Int) % 8 - (m : Int) = ((8 - Bx.length % 8 - m : Nat) : Int) := by omega
      have hk8 : 8 - Bx.length % 8 = (8 - Bx.length % 8 - m) + m := by omega
      have hlow := HLOW.out
      rw [hk8] at hlow
      generalize hke : 8 - Bx.length % 8 - m = k at *
      have hd := Bit.byte_fits c k m (by omega) hcm
      have hor := Bit.byte_join ob c k m hlow hcm
      have hsum : ob ||| c * 2 ^ k < 2 ^ 8 := Nat.or_lt_two_pow (by omega) (by omega)
      rw [hor] at hsum
      have eo := u8_or_nat ob (c * 2 ^ k) hob hd
      rw [hor] at eo
      have esh : IntKind.u64.wrap ((c : Int) * 2 ^ k) = ((c * 2 ^ k : Nat) : Int) := by
        have e : (c : Int) * 2 ^ k = ((c * 2 ^ k : Nat) : Int) := by rw [Int.natCast_mul, Int.natCast_pow]; rfl
        rw [e, IntKind.wrap_u64]; omega
      generalize hde : c * 2 ^ k = d at *
      have e8 : IntKind.u8.wrap (d : Int) = (d : Int) := by rw [IntKind.wrap_u8']; omega
      generalize hse : ob + d = sm at *
      have H1 := Lib.hid hvqe; have H2 := Lib.hid hce; have H3 := Lib.hid hke; have H4 := Lib.hid hde; have H5 := Lib.hid hse; have H6 := Lib.hid hvl; have HLQ := Lib.hid hLQ; have HSM := Lib.hid hsum
      clear hvqe hce hke hde hse hvl hLQ hlow hk8 hcm hor hsum
      have t1 : (Bx.length : Int).tmod 8 = (Bx.length : Int) % 8 := Int.tmod_eq_emod_of_nonneg (by omega)
      have t2 : IntKind.i64.wrap (8 - (Bx.length : Int) % 8) = 8 - (Bx.length : Int) % 8 := IntWalk.i64_in _ (by omega)
      have t3 : IntKind.i64.wrap (k : Int) = (k : Int) := IntWalk.i64_in _ (by have := H3.out; omega)
      have hk64 : k ≤ 64 := by have := H3.out; omega
      refine round_still_tail 24 (by kernel_rfl) (by kernel_rfl) (by kernel_rfl) ?_
      simp only [List.take_succ_cons, List.take_zero, List.drop_succ_cons, List.drop_zero]
      repeat still_step
      refine wpStill_step (fun K hK => ?_)
      go_simp
      refine ⟨_, HLQ.out _, hK _ ?_⟩
      clear hK K
      repeat still_step
      refine wpStill_nil ?_
      have x0 : (W8.setCell ⟨g, Bx.length / 8, none⟩ (.int .u8 sm)).cell? ⟨w.heap.size, 0, none⟩ = some (.pointer (some ⟨p, 0, none⟩)) := (World.cell?_setCell_other W8 ⟨g, Bx.length / 8, none⟩ ⟨w.heap.size, 0, none⟩ _ (fun e => by have := congrArg Addr.block e; simp at this; omega)).trans q0
      have x1 : (W8.setCell ⟨g, Bx.length / 8, none⟩ (.int .u8 sm)).cell? ⟨p, 1, none⟩ = some (.int .i64 Bx.length) := (World.cell?_setCell_other W8 ⟨g, Bx.length / 8, none⟩ ⟨p, 1, none⟩ _ (fun e => by have := congrArg Addr.block e; simp at this; omega)).trans q4
      have x2 : W8.frozen? ⟨p, 1, none⟩ = false := frozen_of_row _ _ _ _ _ ((HF8.out p (by omega)).trans HR3.out.cells)
      go_wp2_with fail
      refine Only.next ?_
      have hfin := mid_end HI.out HC.out HR3.out HN3.out hpl hm0 hm8 hme lo HBX.out HR2.out (sm := sm) (by rw [HOB.out, H1.out, H6.out, H3.out, H4.out]; exact H5.out) HSM.out
      rw [HW8.out, show ((Bx.length + m : Nat) : Int) = (Bx.length : Int) + (m : Int) from by omega] at hfin
      have HFIN := Lib.hid hfin; clear hfin t1 t2 t3 e8 eo ek esh ev
      gi_wp2
      obtain ⟨z1, z2, z3⟩ := HFIN.out
      rw [hs5]
      exact ⟨z1.trans ((KeepsOthers.drew _).from _), z2, z3.drew hpl⟩
  case done =>
    intro D x W hD hm hi hK
    have hx : x = B.length + nn := by have h1 := hi.hi; have h2 := of_decide_eq_false hm; omega
    subst hx
    gi_wp2
    refine ⟨by simp, .inl ⟨_, _, rfl, run_takeDeferred hK, ?_⟩⟩
    have hk := hi.kept hpl (grownBy_putObj' W D (.deferred none)) (fun r e => by cases e; exact ⟨by omega, _, hK, rfl⟩)
    obtain ⟨A4, cap4, h1, h2⟩ := hk.row
    rw [Nat.sub_self, Nat.pow_zero, Nat.div_one, Nat.add_sub_cancel_left] at h2
    exact ⟨_, results_none rfl _ _ _, rfl, A4, cap4, h2, h1, hk.far⟩
  case stop =>
    intro D c x W _ h _
    exact h.elim
end Go.Proofs.YtfgcgjogaaofdaaGreatDoor
