/-
  What a loop over places that appends carries along.
-/
import Derived.Test.YtliobahnekohmaaGreatMaB
namespace Go.Proofs.YtliobahnekohmaaGreat
open Go.RowKit
theorem f_two_heap (w : World) (a b : Obj) : ((w.alloc a).alloc b).heap[w.heap.size]? = some a ∧ ((w.alloc a).alloc b).heap[w.heap.size + 1]? = some b ∧
    ((w.alloc a).alloc b).heap.size = w.heap.size + 2 ∧ (∀ k, k < w.heap.size → ((w.alloc a).alloc b).heap[k]? = w.heap[k]?) ∧ w.grownBy ((w.alloc a).alloc b) none := by
  have z1 : (w.alloc a).heap.size = w.heap.size + 1 := by simp
  refine ⟨?_, ?_, by simp, fun k hk => ?_, grown_trans (World.grownBy_alloc _ _ none) (World.grownBy_alloc _ _ none)⟩
  · rw [Below.heap_alloc _ _ _ (by omega), heap_alloc_new]
  · rw [← z1, heap_alloc_new]
  · rw [Below.heap_alloc _ _ _ (by omega), Below.heap_alloc _ _ _ hk]
def DrewOf (w W : World) : Prop := ∃ k, W = w.drewN k
theorem DrewOf.grown {w W : World} (h : DrewOf w W) (row : Option Nat) : w.grownBy W row := by obtain ⟨k, rfl⟩ := h; exact ⟨rfl, rfl, rfl, Nat.le_refl _, fun _ _ _ => rfl⟩
theorem f_putObj_other (W : World) (l k : Nat) (o : Obj) (h : k ≠ l) : (W.putObj l o).heap[k]? = W.heap[k]? := World.putObj_heap_other h
theorem own_cells {w : World} {base e : TypeId} {size n : Nat} {v : Value} {xs : List Value} (h : w.ownsRow base e size v n xs) {k : Nat} (hk : v.ownBlock = some k) {o : Obj} (ho : w.heap[k]? = some o) : o.isCells = true := by
  rcases h.2 with ⟨rfl, _⟩ | ⟨g, cap, cur, rfl, hb, hg, _⟩
  · simp [Value.ownBlock] at hk
  · simp [Value.ownBlock] at hk
    subst hk
    rw [hg] at ho
    cases ho
    rfl
theorem own_from {w : World} {base b2 : Nat} {e : TypeId} {size n : Nat} {v : Value} {xs : List Value} (h : w.ownsRow base e size v n xs) (hb : b2 ≤ base) : w.ownsRow b2 e size v n xs := by
  refine ⟨h.1, ?_⟩
  rcases h.2 with ⟨rfl, h2⟩ | ⟨g, cap, cur, rfl, hb2, rest⟩
  · exact .inl ⟨rfl, h2⟩
  · exact .inr ⟨g, cap, cur, rfl, by omega, rest⟩
/-- before a round: a box, the row so far, the function's two boxes -/
structure PickAt (w w0 : World) (vb : Value) (tb to te : TypeId) (k : Nat) (v f : Value) (tv tf : TypeId) (cell : Nat → List Value) (b : Nat → Bool) (n : Nat) (s : Nat) (W : World) : Prop where
  ex : ∃ o, W.heap[w.heap.size + 1]? = some (.cells #[o] to (0, 0)) ∧ W.ownsRow (w.heap.size + 4) te k o (Ma.sel b s).length ((Ma.sel b s).flatMap cell)
  box : W.heap[w.heap.size]? = some (.cells #[vb] tb (0, 0))
  pin : PIn w0 (w.heap.size + 2) v f tv tf W
  low : w0.heap.size ≤ w.heap.size + 1
  size : w.heap.size + 4 ≤ W.heap.size
  le : s ≤ n
  want : s < n → b s = true
variable {w w0 : World} {vb v f : Value} {tb to te tv tf : TypeId} {k n s : Nat} {cell : Nat → List Value} {b : Nat → Bool} {W W2 : World}
theorem PickAt.kept {row : Option Nat} (h : PickAt w w0 vb tb to te k v f tv tf cell b n s W) (hg : W.grownBy W2 row) (hr : ∀ r, row = some r → w.heap.size + 4 ≤ r ∧ ∃ o : Obj, W.heap[r]? = some o ∧ o.isCells = false) : PickAt w w0 vb tb to te k v f tv tf cell b n s W2 := by
  have hlow : ∀ k, k < w.heap.size + 4 → W2.heap[k]? = W.heap[k]? := fun k hk => hg.block k (by have := h.size; omega) (fun e => by have := (hr k e.symm).1; omega)
  obtain ⟨o, h1, h2⟩ := h.ex
  refine ⟨⟨o, (hlow _ (by omega)).trans h1, h2.kept hg ?_⟩, (hlow _ (by omega)).trans h.box, ⟨h.pin.low, h.pin.bel.grown hg (by have := h.size; have := h.low; omega) (fun r e => by have := (hr r e).1; have := h.low; omega), (hlow _ (by omega)).trans h.pin.b1, (hlow _ (by omega)).trans h.pin.b2⟩, h.low, Nat.le_trans h.size hg.size, h.le, h.want⟩
  cases hv : o.ownBlock with
  | none => exact .inl rfl
  | some k =>
    refine .inr (fun e => ?_)
    obtain ⟨_, ob, ho, hoc⟩ := hr k e.symm
    rw [own_cells h2 hv ho] at hoc
    cases hoc
/-- a round's end -/
theorem pick_end (h : PickAt w w0 vb tb to te k v f tv tf cell b n s W) (hlt : s < n) (hb : b s = true) {o o' : Value} {ob : Obj} {W1 : World}
    (h1 : W.heap[w.heap.size + 1]? = some (.cells #[o] to (0, 0))) (h2 : W.ownsRow (w.heap.size + 4) te k o (Ma.sel b s).length ((Ma.sel b s).flatMap cell))
    (hown : W1.ownsRow (w.heap.size + 4) te k o' ((Ma.sel b s).length + 1) ((Ma.sel b s).flatMap cell ++ cell s)) (hg : (W.alloc ob).grownBy W1 o.ownBlock) :
    KeepsFrom (w.heap.size + 4) W (W1.setCell ⟨w.heap.size + 1, 0, none⟩ o') ∧ PKeep w0.heap.size (w.heap.size + 2) W (W1.setCell ⟨w.heap.size + 1, 0, none⟩ o') ∧
    PickAt w w0 vb tb to te k v f tv tf cell b n (Ma.nw b n (s + 1)) (W1.setCell ⟨w.heap.size + 1, 0, none⟩ o') := by
  have hsz := h.size
  have hlo := h.low
  have hga : W.grownBy W1 o.ownBlock := grown_trans (World.grownBy_alloc W ob _) hg
  have hvb : ∀ k, o.ownBlock = some k → w.heap.size + 4 ≤ k := fun k hk => (h2.lt k hk).1
  have low1 : ∀ k, k < w.heap.size + 4 → W1.heap[k]? = W.heap[k]? := fun k hk => hga.block k (by omega) (fun e => by have := hvb k e.symm; omega)
  have s1 := grown_setCell W1 (w.heap.size + 1) 0 o'
  have n1 := heap_setCell_same W1 (w.heap.size + 1) 0 _ _ o' ((low1 _ (by omega)).trans h1)
  have f1 : ∀ k, k ≠ w.heap.size + 1 → (W1.setCell ⟨w.heap.size + 1, 0, none⟩ o').heap[k]? = W1.heap[k]? := fun k hk => heap_setCell_other W1 ⟨w.heap.size + 1, 0, none⟩ k _ hk
  have k1 : KeepsOthers W1 (W1.setCell ⟨w.heap.size + 1, 0, none⟩ o') := KeepsOthers.setCell _ _ _
  have own1 := hown.kept s1 (by cases hv : o'.ownBlock with
    | none => exact .inl rfl
    | some k => exact .inr (fun e => by have := (hown.lt k hv).1; cases e; omega))
  generalize W1.setCell ⟨w.heap.size + 1, 0, none⟩ o' = W3 at *
  have low : ∀ k, k < w.heap.size + 4 → k ≠ w.heap.size + 1 → W3.heap[k]? = W.heap[k]? := fun k h0 h1 => (f1 k h1).trans (low1 k h0)
  have k0 : KeepsOthers W W1 := ⟨hga.size, fun k ob ho hoc => by
    have hlt := (Array.getElem?_eq_some_iff.1 ho).1
    by_cases e : o.ownBlock = some k
    · rw [own_cells h2 e ho] at hoc; cases hoc
    · exact (hga.block k hlt (fun e2 => e e2.symm)).trans ho⟩
  obtain ⟨q1, q2, q3, q4⟩ := Ma.nw_spec b (n := n) (p := s + 1) (by omega)
  have hsel : Ma.sel b (Ma.nw b n (s + 1)) = Ma.sel b s ++ [s] := by rw [q3, Ma.sel_yes hb]
  have hbel : Below w0.heap.size W W3 := ((Below.refl w0.heap.size W).grown hga (by omega) (fun r e => by have := hvb r e; omega)).grown s1 (by have := hga.size; omega) (fun r e => by cases e; omega)
  refine ⟨(k0.trans k1).from _, ⟨hbel, low _ (by omega) (by omega), low _ (by omega) (by omega)⟩, ⟨o', n1, ?_⟩, (low _ (by omega) (by omega)).trans h.box, ⟨h.pin.low, h.pin.bel.trans hbel, (low _ (by omega) (by omega)).trans h.pin.b1, (low _ (by omega) (by omega)).trans h.pin.b2⟩, hlo, ?_, q2, q4⟩
  · rw [hsel, List.length_append, List.flatMap_append]
    have e1 : [s].flatMap cell = cell s := by simp
    rw [e1]
    exact own1
  · have := hga.size; have := s1.size; omega
theorem only_mk {K : Act → World → Prop} {a : Act} {w : World} (h : K a w) : Only K .normal a w := h
/-- what holds all through a round's append -/
structure PickS (w : World) (vb : Value) (tb : TypeId) (U : World) : Prop where
  bel : Below w.heap.size w U
  box : U.heap[w.heap.size]? = some (.cells #[vb] tb (0, 0))
theorem PickS.at_box {U : World} (h : PickS w vb tb U) : U.cell? ⟨w.heap.size, 0, none⟩ = some vb := cell_of_row _ _ _ _ _ _ h.box
theorem PickS.later {U U2 : World} (h : PickS w vb tb U) (hb : Below U.heap.size U U2) : PickS w vb tb U2 := ⟨h.bel.trans (hb.mono h.bel.size), heap_keep h.box hb⟩
theorem PickS.grown {U U2 : World} {row : Option Nat} (h : PickS w vb tb U) (hg : U.grownBy U2 row) (hr : ∀ r, row = some r → w.heap.size + 4 ≤ r) : PickS w vb tb U2 :=
  ⟨h.bel.grown hg h.bel.size (fun r e => by have := hr r e; omega), (hg.block _ (Array.getElem?_eq_some_iff.1 h.box).1 (fun e => by have := hr _ e.symm; omega)).trans h.box⟩
theorem PickS.out_ {U : World} (h : PickS w vb tb U) (o : Value) : PickS w vb tb (U.setCell ⟨w.heap.size + 1, 0, none⟩ o) :=
  ⟨h.bel.setCell (by show _ ≤ w.heap.size + 1; omega) o, (Below.heap_setCell U ⟨w.heap.size + 1, 0, none⟩ o _ (by show w.heap.size ≠ w.heap.size + 1; omega)).trans h.box⟩
theorem cells_new (w : World) (l : List Value) (T : TypeId) : ∀ (j : Nat) u, l[j]? = some u → (w.alloc (.cells l.toArray T)).cell? ((⟨w.heap.size, 0, none⟩ : Addr).add j) = some u := by
  intro j u hu
  rw [Addr.add_lit, Nat.zero_add, cell_of_row _ _ _ _ _ _ (heap_alloc_new w _)]
  rw [← hu]; simp
/-- what a loop that picks comes to -/
def Picks (te : TypeId) (k : Nat) (cell : Nat → List Value) (L : List Nat) (w : World) (e : Ending) (w' : World) : Prop :=
  ∃ v, e = .returned v ∧ w'.ownsRow w.heap.size te k v L.length (L.flatMap cell) ∧ Below w.heap.size w w'
end Go.Proofs.YtliobahnekohmaaGreat
