/-
  What the functions of package frame come to: Split.
-/
import Derived.Test.YteohhcnadoaciaaFrE
import Derived.Test.YteohhcnadoaciaaStrs
namespace Go.Proofs.Yteohhcnadoaciaa
open Go.RowKit Go.Shelf
attribute [local go_sem] Oper.semAt_some

theorem f_two_heap (w : World) (a b : Obj) : ((w.alloc a).alloc b).heap[w.heap.size]? = some a ∧ ((w.alloc a).alloc b).heap[w.heap.size + 1]? = some b ∧
    ((w.alloc a).alloc b).heap.size = w.heap.size + 2 ∧ (∀ k, k < w.heap.size → ((w.alloc a).alloc b).heap[k]? = w.heap[k]?) ∧ w.grownBy ((w.alloc a).alloc b) none := by
  have z1 : (w.alloc a).heap.size = w.heap.size + 1 := by simp
  refine ⟨?_, ?_, by simp, fun k hk => ?_, grown_trans (World.grownBy_alloc _ _ none) (World.grownBy_alloc _ _ none)⟩
  · rw [Below.heap_alloc _ _ _ (by omega), heap_alloc_new]
  · rw [← z1, heap_alloc_new]
  · rw [Below.heap_alloc _ _ _ (by omega), Below.heap_alloc _ _ _ hk]
theorem f_putObj_other (W : World) (l k : Nat) (o : Obj) (h : k ≠ l) : (W.putObj l o).heap[k]? = W.heap[k]? := World.putObj_heap_other h
/-- the row's block holds cells -/
theorem own_cells {w : World} {base e : TypeId} {size n : Nat} {v : Value} {xs : List Value} (h : w.ownsRow base e size v n xs) {k : Nat} (hk : v.ownBlock = some k) {o : Obj} (ho : w.heap[k]? = some o) : o.isCells = true := by
  rcases h.2 with ⟨rfl, _⟩ | ⟨g, cap, cur, rfl, hb, hg, _⟩
  · simp [Value.ownBlock] at hk
  · simp [Value.ownBlock] at hk
    subst hk
    rw [hg] at ho
    cases ho
    rfl

/-- what Split holds before a round -/
structure SpAt (s : ByteArray) (most : Int) (w : World) (t : ByteArray) (W : World) : Prop where
  ex : ∃ (acc : List ByteArray) (v : Value), W.heap[w.heap.size]? = some (.cells #[v] 33 (0, 0)) ∧ W.ownsRow (w.heap.size + 4) 9 1 v acc.length (acc.map Value.string) ∧ (Fr.all s most).1 = acc ++ (Fr.all t most).1 ∧ acc.length * 5 + t.size ≤ s.size
  rest : (Fr.all s most).2 = (Fr.all t most).2
  left : W.heap[w.heap.size + 1]? = some (.cells #[.string t] 9 (0, 0))
  box : FBoxes (w.heap.size + 2) s most W
  bel : Below w.heap.size w W
  size : w.heap.size + 4 ≤ W.heap.size
theorem SpAt.kept {s t : ByteArray} {most : Int} {w W W2 : World} {row : Option Nat} (h : SpAt s most w t W) (hg : W.grownBy W2 row) (hr : ∀ r, row = some r → w.heap.size + 4 ≤ r ∧ ∃ o : Obj, W.heap[r]? = some o ∧ o.isCells = false) : SpAt s most w t W2 := by
  have hlow : ∀ k, k < w.heap.size + 4 → W2.heap[k]? = W.heap[k]? := fun k hk => hg.block k (by have := h.size; omega) (fun e => by have := (hr k e.symm).1; omega)
  obtain ⟨acc, v, h1, h2, h3, h4⟩ := h.ex
  refine ⟨⟨acc, v, (hlow _ (by omega)).trans h1, h2.kept hg ?_, h3, h4⟩, h.rest, (hlow _ (by omega)).trans h.left, h.box.keep (hlow _ (by omega)) (hlow _ (by omega)),
    h.bel.grown hg (by have := h.size; omega) (fun r e => by have := (hr r e).1; omega), Nat.le_trans h.size hg.size⟩
  cases hv : v.ownBlock with
  | none => exact .inl rfl
  | some k =>
    refine .inr (fun e => ?_)
    obtain ⟨_, o, ho, hoc⟩ := hr k e.symm
    rw [own_cells h2 hv ho] at hoc
    cases hoc
/-- a round's end -/
theorem sp_end {s t : ByteArray} {most : Int} {w W W1 : World} {acc : List ByteArray} {v v' : Value} {o : Obj} (h : SpAt s most w t W) (hz : (Fr.get t most).2.2 = 0)
    (h1 : W.heap[w.heap.size]? = some (.cells #[v] 33 (0, 0))) (h2 : W.ownsRow (w.heap.size + 4) 9 1 v acc.length (acc.map Value.string)) (h3 : (Fr.all s most).1 = acc ++ (Fr.all t most).1) (h4 : acc.length * 5 + t.size ≤ s.size)
    (hown : W1.ownsRow (w.heap.size + 4) 9 1 v' (acc.length + 1) (acc.map Value.string ++ [.string (Fr.get t most).1])) (hg : (W.alloc o).grownBy W1 v.ownBlock) :
    KeepsFrom (w.heap.size + 4) W ((W1.setCell ⟨w.heap.size, 0, none⟩ v').setCell ⟨w.heap.size + 1, 0, none⟩ (.string (Fr.get t most).2.1)) ∧
    FKeep (w.heap.size + 2) W ((W1.setCell ⟨w.heap.size, 0, none⟩ v').setCell ⟨w.heap.size + 1, 0, none⟩ (.string (Fr.get t most).2.1)) ∧
    SpAt s most w (Fr.get t most).2.1 ((W1.setCell ⟨w.heap.size, 0, none⟩ v').setCell ⟨w.heap.size + 1, 0, none⟩ (.string (Fr.get t most).2.1)) := by
  have hsz := h.size
  have hga : W.grownBy W1 v.ownBlock := grown_trans (World.grownBy_alloc W o _) hg
  have hvb : ∀ k, v.ownBlock = some k → w.heap.size + 4 ≤ k := fun k hk => (h2.lt k hk).1
  have low1 : ∀ k, k < w.heap.size + 4 → W1.heap[k]? = W.heap[k]? := fun k hk => hga.block k (by omega) (fun e => by have := hvb k e.symm; omega)
  have s1 := grown_setCell W1 w.heap.size 0 v'
  have n1 := heap_setCell_same W1 w.heap.size 0 _ _ v' ((low1 _ (by omega)).trans h1)
  have f1 : ∀ k, k ≠ w.heap.size → (W1.setCell ⟨w.heap.size, 0, none⟩ v').heap[k]? = W1.heap[k]? := fun k hk => heap_setCell_other W1 ⟨w.heap.size, 0, none⟩ k _ hk
  have k1 : KeepsOthers W1 (W1.setCell ⟨w.heap.size, 0, none⟩ v') := KeepsOthers.setCell _ _ _
  have ob1 : ∀ k, v'.ownBlock = some k → w.heap.size + 4 ≤ k := fun k hk => (hown.lt k hk).1
  have own1 := hown.kept s1 (by cases hv : v'.ownBlock with
    | none => exact .inl rfl
    | some k => exact .inr (fun e => by have := ob1 k hv; cases e; omega))
  generalize W1.setCell ⟨w.heap.size, 0, none⟩ v' = W2 at *
  have s2 := grown_setCell W2 (w.heap.size + 1) 0 (.string (Fr.get t most).2.1)
  have c2 := (f1 (w.heap.size + 1) (by omega)).trans ((low1 _ (by omega)).trans h.left)
  have n2 := heap_setCell_same W2 (w.heap.size + 1) 0 _ _ (.string (Fr.get t most).2.1) c2
  have f2 : ∀ k, k ≠ w.heap.size + 1 → (W2.setCell ⟨w.heap.size + 1, 0, none⟩ (.string (Fr.get t most).2.1)).heap[k]? = W2.heap[k]? := fun k hk => heap_setCell_other W2 ⟨w.heap.size + 1, 0, none⟩ k _ hk
  have k2 : KeepsOthers W2 (W2.setCell ⟨w.heap.size + 1, 0, none⟩ (.string (Fr.get t most).2.1)) := KeepsOthers.setCell _ _ _
  have own2 := own1.kept s2 (by cases hv : v'.ownBlock with
    | none => exact .inl rfl
    | some k => exact .inr (fun e => by have := ob1 k hv; cases e; omega))
  generalize W2.setCell ⟨w.heap.size + 1, 0, none⟩ (.string (Fr.get t most).2.1) = W3 at *
  have low : ∀ k, k < w.heap.size + 4 → k ≠ w.heap.size → k ≠ w.heap.size + 1 → W3.heap[k]? = W.heap[k]? := fun k h0 h1 h2 => (f2 k h2).trans ((f1 k h1).trans (low1 k h0))
  have k0 : KeepsOthers W W1 := ⟨hga.size, fun k o ho hoc => by
    have hlt := (Array.getElem?_eq_some_iff.1 ho).1
    by_cases e : v.ownBlock = some k
    · rw [own_cells h2 e ho] at hoc; cases hoc
    · exact (hga.block k hlt (fun e2 => e e2.symm)).trans ho⟩
  have hm := Fr.all_more t most hz
  have hless := Fr.get_less t most hz
  refine ⟨((k0.trans k1).trans k2).from _, ⟨low _ (by omega) (by omega) (by omega), low _ (by omega) (by omega) (by omega)⟩,
    ⟨acc ++ [(Fr.get t most).1], v', (f2 _ (by omega)).trans n1, by simpa using own2, by rw [h3, hm]; simp, by simp; omega⟩, by rw [h.rest, hm], n2, h.box.keep (low _ (by omega) (by omega) (by omega)) (low _ (by omega) (by omega) (by omega)), ?_, ?_⟩
  · exact ((h.bel.grown hga (by omega) (fun r e => by have := hvb r e; omega)).grown s1 (by have := hga.size; omega) (fun r e => by cases e; exact Nat.le_refl _)).grown s2 (by have := hga.size; have := s1.size; omega) (fun r e => by cases e; omega)
  · have := hga.size; have := s1.size; have := s2.size; omega

/-- what Split comes to -/
def Splits (s : ByteArray) (most : Int) (w : World) (e : Ending) (w' : World) : Prop :=
  ∃ v : Value, e = .returned (.tuple #[v, .int .i64 ((s.size - (Fr.all s most).2.size : Nat) : Int), .int .i64 ((Fr.shape (Fr.all s most).2 most : Nat) : Int)]) ∧ w'.ownsRow w.heap.size 9 1 v (Fr.all s most).1.length ((Fr.all s most).1.map Value.string) ∧ Below w.heap.size w w'
end Go.Proofs.Yteohhcnadoaciaa
