import Derived.Test.YtliobahnekohmaaGreatArr
import Derived.Test.YtliobahnekohmaaGreatLabs
import Derived.Test.YtliobahnekohmaaGreatRangeN
import Derived.RangeFuncBound
import Derived.RangeFuncBox
import Derived.Shelf.Abstract
import Derived.Shelf.RegionOpen
import Derived.OwnWalkIn
import Derived.TacticsInMore
import Derived.LoopNIn
import Derived.LoopIn
/-
  The things that are wanted: the mathematics of package match's ranges.
-/
namespace Go.Proofs.YtliobahnekohmaaGreat
namespace Ma
def sel (b : Nat → Bool) (n : Nat) : List Nat := (List.range n).filter b
def nwF (b : Nat → Bool) : Nat → Nat → Nat
 | 0, p => p
 | k + 1, p => if b p = true then p else nwF b k (p + 1)
def nw (b : Nat → Bool) (n p : Nat) : Nat := nwF b (n - p) p
theorem nw_yes {b : Nat → Bool} {n p : Nat} (h : p < n) (hb : b p = true) : nw b n p = p := by
 unfold nw
 rw [show n - p = (n - p - 1) + 1 from by omega, nwF, if_pos hb]
theorem nw_no {b : Nat → Bool} {n p : Nat} (h : p < n) (hb : b p = false) : nw b n p = nw b n (p + 1) := by
 unfold nw
 rw [show n - p = (n - (p + 1)) + 1 from by omega, nwF, if_neg (by rw [hb]; decide)]
theorem nw_end {b : Nat → Bool} {n p : Nat} (h : n ≤ p) : nw b n p = p := by
 unfold nw
 rw [show n - p = 0 from by omega, nwF]
theorem sel_yes {b : Nat → Bool} {p : Nat} (h : b p = true) : sel b (p + 1) = sel b p ++ [p] := by
 unfold sel; rw [List.range_succ, List.filter_append]; simp [h]
theorem sel_no {b : Nat → Bool} {p : Nat} (h : b p = false) : sel b (p + 1) = sel b p := by
 unfold sel; rw [List.range_succ, List.filter_append]; simp [h]
theorem nwF_spec (b : Nat → Bool) : ∀ (k p : Nat), p ≤ nwF b k p ∧ nwF b k p ≤ p + k ∧ sel b (nwF b k p) = sel b p ∧ (nwF b k p < p + k → b (nwF b k p) = true)
 | 0, p => ⟨Nat.le_refl _, Nat.le_refl _, rfl, fun h => absurd h (Nat.lt_irrefl _)⟩
 | k + 1, p => by
  unfold nwF
  by_cases hb : b p = true
  · rw [if_pos hb]; exact ⟨Nat.le_refl _, by omega, rfl, fun _ => hb⟩
  · rw [if_neg hb]
    obtain ⟨h1, h2, h3, h4⟩ := nwF_spec b k (p + 1)
    refine ⟨by omega, by omega, ?_, fun h => h4 (by omega)⟩
    rw [h3, sel_no (by simpa using hb)]
theorem nw_spec (b : Nat → Bool) {n p : Nat} (h : p ≤ n) : p ≤ nw b n p ∧ nw b n p ≤ n ∧ sel b (nw b n p) = sel b p ∧ (nw b n p < n → b (nw b n p) = true) := by
 obtain ⟨h1, h2, h3, h4⟩ := nwF_spec b (n - p) p
 exact ⟨h1, by unfold nw; omega, h3, fun h => h4 (by unfold nw at h; omega)⟩
theorem sel_length (b : Nat → Bool) (n : Nat) : (sel b n).length ≤ n := by
 unfold sel
 have := List.length_filter_le b (List.range n)
 rwa [List.length_range] at this
end Ma
end Go.Proofs.YtliobahnekohmaaGreat
/-
  Rows of any elements, and the two boxes of a function that hands places on.
-/
namespace Go.Proofs.YtliobahnekohmaaGreat
open Go.RowKit
def Row (k : Nat) (x : Nat → Nat → Value) (w : World) (A : Option Addr) (n : Nat) : Prop :=
 0 < n → ∃ ad, A = some ad ∧ ad.block < w.heap.size ∧ ∀ i, i < n → ∀ j, j < k → w.cell? (ad.add (i * k + j)) = some (x i j)
theorem Row.at_ {k : Nat} {x : Nat → Nat → Value} {w w2 : World} {A : Option Addr} {n : Nat} (h : Row k x w A n) (hb : Below w.heap.size w w2) {i : Nat} (hi : i < n) :
 ∃ ad, A = some ad ∧ (0 < k → w2.cell? (ad.add (i * k)) = some (x i 0)) ∧ ∀ j, j < k → 0 < j → w2.cell? ⟨(ad.add (i * k)).block, (ad.add (i * k)).off + j, none⟩ = some (x i j) := by
 obtain ⟨ad, e, hlt, hc⟩ := h (by omega)
 refine ⟨ad, e, fun hk => (hb.cell (by rw [addr_block]; exact hlt)).trans (hc i hi 0 hk), fun j hj h0 => ?_⟩
 obtain ⟨j, rfl⟩ : ∃ j', j = j' + 1 := ⟨j - 1, by omega⟩
 have e2 : (ad.add (i * k)).add (j + 1) = ⟨(ad.add (i * k)).block, (ad.add (i * k)).off + (j + 1), none⟩ := rfl
 rw [← e2, Go.Deep.add_add]
 exact (hb.cell (by rw [addr_block]; exact hlt)).trans (hc i hi _ hj)
theorem Row.later {k : Nat} {x : Nat → Nat → Value} {w w2 : World} {A : Option Addr} {n : Nat} (h : Row k x w A n) (hb : Below w.heap.size w w2) : Row k x w2 A n := fun hn => by
 obtain ⟨ad, e, hlt, hc⟩ := h hn
 exact ⟨ad, e, Nat.lt_of_lt_of_le hlt hb.size, fun i hi j hj => (hb.cell (by rw [addr_block]; exact hlt)).trans (hc i hi j hj)⟩
theorem LabRow.row {w : World} {A : Option Addr} {n : Nat} {f : Nat → Lab} (h : LabRow w A n f) : Row 2 (fun i j => if j = 0 then .string (f i).1 else .string (f i).2) w A n := fun hn => by
 obtain ⟨ad, e, hlt, hc⟩ := h hn
 refine ⟨ad, e, hlt, fun i hi j hj => ?_⟩
 rcases (show j = 0 ∨ j = 1 by omega) with rfl | rfl
 · exact (hc i hi).1
 · exact (hc i hi).2
structure PIn (w0 : World) (g : Nat) (v f : Value) (tv tf : TypeId) (W : World) : Prop where
 low : w0.heap.size ≤ g
 bel : Below w0.heap.size w0 W
 b1 : W.heap[g]? = some (.cells #[v] tv (0, 0))
 b2 : W.heap[g + 1]? = some (.cells #[f] tf (0, 0))
def PKeep (base g : Nat) (A B : World) : Prop := Below base A B ∧ B.heap[g]? = A.heap[g]? ∧ B.heap[g + 1]? = A.heap[g + 1]?
theorem PKeep.trans {base g : Nat} {A B C : World} (h : PKeep base g A B) (k : PKeep base g B C) : PKeep base g A C := ⟨h.1.trans k.1, k.2.1.trans h.2.1, k.2.2.trans h.2.2⟩
theorem PIn.keep {w0 : World} {g : Nat} {v f : Value} {tv tf : TypeId} {A B : World} (h : PIn w0 g v f tv tf A) (k : PKeep w0.heap.size g A B) : PIn w0 g v f tv tf B := ⟨h.low, h.bel.trans k.1, k.2.1.trans h.b1, k.2.2.trans h.b2⟩
theorem PIn.later {w0 : World} {g : Nat} {v f : Value} {tv tf : TypeId} {A B : World} (h : PIn w0 g v f tv tf A) (hb : Below A.heap.size A B) : PIn w0 g v f tv tf B := ⟨h.low, h.bel.trans (hb.mono h.bel.size), heap_keep h.b1 hb, heap_keep h.b2 hb⟩
theorem PIn.drew {w0 : World} {g : Nat} {v f : Value} {tv tf : TypeId} {A : World} (h : PIn w0 g v f tv tf A) : PIn w0 g v f tv tf A.drew := ⟨h.low, h.bel.drew, h.b1, h.b2⟩
theorem PIn.cells {w0 : World} {g : Nat} {v f : Value} {tv tf : TypeId} {A : World} (h : PIn w0 g v f tv tf A) : A.cell? ⟨g, 0, none⟩ = some v ∧ A.cell? ⟨g + 1, 0, none⟩ = some f := ⟨cell_of_row _ _ _ _ _ _ h.b1, cell_of_row _ _ _ _ _ _ h.b2⟩
end Go.Proofs.YtliobahnekohmaaGreat
/-
  What a loop over places that appends carries along.
-/
namespace Go.Proofs.YtliobahnekohmaaGreat
open Go.RowKit
theorem f_two_heap (w : World) (a b : Obj) : ((w.alloc a).alloc b).heap[w.heap.size]? = some a ∧ ((w.alloc a).alloc b).heap[w.heap.size + 1]? = some b ∧
 ((w.alloc a).alloc b).heap.size = w.heap.size + 2 ∧ (∀ k, k < w.heap.size → ((w.alloc a).alloc b).heap[k]? = w.heap[k]?) ∧ w.grownBy ((w.alloc a).alloc b) none := by
 have z1 : (w.alloc a).heap.size = w.heap.size + 1 := by simp
 refine ⟨?_, ?_, by simp, fun k hk => ?_, grown_trans (World.grownBy_alloc _ _ none) (World.grownBy_alloc _ _ none)⟩
 · rw [Below.heap_alloc _ _ _ (by omega), heap_alloc_new]
 · rw [← z1, heap_alloc_new]
 · rw [Below.heap_alloc _ _ _ (by omega), Below.heap_alloc _ _ _ hk]
def DrewOf (w W : World) : Prop := ∃ k, W = w.drewN k
theorem DrewOf.grown {w W : World} (h : DrewOf w W) (row : Option Nat) : w.grownBy W row := by obtain ⟨k, rfl⟩ := h; exact ⟨rfl, rfl, rfl, Nat.le_refl _, fun _ _ _ => rfl⟩
theorem f_putObj_other (W : World) (l k : Nat) (o : Obj) (h : k ≠ l) : (W.putObj l o).heap[k]? = W.heap[k]? := World.putObj_heap_other h
theorem own_cells {w : World} {base e : TypeId} {size n : Nat} {v : Value} {xs : List Value} (h : w.ownsRow base e size v n xs) {k : Nat} (hk : v.ownBlock = some k) {o : Obj} (ho : w.heap[k]? = some o) : o.isCells = true := by
 rcases h.2 with ⟨rfl, _⟩ | ⟨g, cap, cur, rfl, hb, hg, _⟩
 · simp [Value.ownBlock] at hk
 · simp [Value.ownBlock] at hk
   subst hk
   rw [hg] at ho
   cases ho
   rfl
theorem own_from {w : World} {base b2 : Nat} {e : TypeId} {size n : Nat} {v : Value} {xs : List Value} (h : w.ownsRow base e size v n xs) (hb : b2 ≤ base) : w.ownsRow b2 e size v n xs := by
 refine ⟨h.1, ?_⟩
 rcases h.2 with ⟨rfl, h2⟩ | ⟨g, cap, cur, rfl, hb2, rest⟩
 · exact .inl ⟨rfl, h2⟩
 · exact .inr ⟨g, cap, cur, rfl, by omega, rest⟩
structure PickAt (w w0 : World) (vb : Value) (tb to te : TypeId) (k : Nat) (v f : Value) (tv tf : TypeId) (cell : Nat → List Value) (b : Nat → Bool) (n : Nat) (s : Nat) (W : World) : Prop where
 ex : ∃ o, W.heap[w.heap.size + 1]? = some (.cells #[o] to (0, 0)) ∧ W.ownsRow (w.heap.size + 4) te k o (Ma.sel b s).length ((Ma.sel b s).flatMap cell)
 box : W.heap[w.heap.size]? = some (.cells #[vb] tb (0, 0))
 pin : PIn w0 (w.heap.size + 2) v f tv tf W
 low : w0.heap.size ≤ w.heap.size + 1
 size : w.heap.size + 4 ≤ W.heap.size
 le : s ≤ n
 want : s < n → b s = true
variable {w w0 : World} {vb v f : Value} {tb to te tv tf : TypeId} {k n s : Nat} {cell : Nat → List Value} {b : Nat → Bool} {W W2 : World}
theorem PickAt.kept {row : Option Nat} (h : PickAt w w0 vb tb to te k v f tv tf cell b n s W) (hg : W.grownBy W2 row) (hr : ∀ r, row = some r → w.heap.size + 4 ≤ r ∧ ∃ o : Obj, W.heap[r]? = some o ∧ o.isCells = false) : PickAt w w0 vb tb to te k v f tv tf cell b n s W2 := by
 have hlow : ∀ k, k < w.heap.size + 4 → W2.heap[k]? = W.heap[k]? := fun k hk => hg.block k (by have := h.size; omega) (fun e => by have := (hr k e.symm).1; omega)
 obtain ⟨o, h1, h2⟩ := h.ex
 refine ⟨⟨o, (hlow _ (by omega)).trans h1, h2.kept hg ?_⟩, (hlow _ (by omega)).trans h.box, ⟨h.pin.low, h.pin.bel.grown hg (by have := h.size; have := h.low; omega) (fun r e => by have := (hr r e).1; have := h.low; omega), (hlow _ (by omega)).trans h.pin.b1, (hlow _ (by omega)).trans h.pin.b2⟩, h.low, Nat.le_trans h.size hg.size, h.le, h.want⟩
 cases hv : o.ownBlock with
 | none => exact .inl rfl
 | some k =>
  refine .inr (fun e => ?_)
  obtain ⟨_, ob, ho, hoc⟩ := hr k e.symm
  rw [own_cells h2 hv ho] at hoc
  cases hoc
theorem pick_end (h : PickAt w w0 vb tb to te k v f tv tf cell b n s W) (hlt : s < n) (hb : b s = true) {o o' : Value} {ob : Obj} {W1 : World}
 (h1 : W.heap[w.heap.size + 1]? = some (.cells #[o] to (0, 0))) (h2 : W.ownsRow (w.heap.size + 4) te k o (Ma.sel b s).length ((Ma.sel b s).flatMap cell))
 (hown : W1.ownsRow (w.heap.size + 4) te k o' ((Ma.sel b s).length + 1) ((Ma.sel b s).flatMap cell ++ cell s)) (hg : (W.alloc ob).grownBy W1 o.ownBlock) :
 KeepsFrom (w.heap.size + 4) W (W1.setCell ⟨w.heap.size + 1, 0, none⟩ o') ∧ PKeep w0.heap.size (w.heap.size + 2) W (W1.setCell ⟨w.heap.size + 1, 0, none⟩ o') ∧
 PickAt w w0 vb tb to te k v f tv tf cell b n (Ma.nw b n (s + 1)) (W1.setCell ⟨w.heap.size + 1, 0, none⟩ o') := by
 have hsz := h.size
 have hlo := h.low
 have hga : W.grownBy W1 o.ownBlock := grown_trans (World.grownBy_alloc W ob _) hg
 have hvb : ∀ k, o.ownBlock = some k → w.heap.size + 4 ≤ k := fun k hk => (h2.lt k hk).1
 have low1 : ∀ k, k < w.heap.size + 4 → W1.heap[k]? = W.heap[k]? := fun k hk => hga.block k (by omega) (fun e => by have := hvb k e.symm; omega)
 have s1 := grown_setCell W1 (w.heap.size + 1) 0 o'
 have n1 := heap_setCell_same W1 (w.heap.size + 1) 0 _ _ o' ((low1 _ (by omega)).trans h1)
 have f1 : ∀ k, k ≠ w.heap.size + 1 → (W1.setCell ⟨w.heap.size + 1, 0, none⟩ o').heap[k]? = W1.heap[k]? := fun k hk => heap_setCell_other W1 ⟨w.heap.size + 1, 0, none⟩ k _ hk
 have k1 : KeepsOthers W1 (W1.setCell ⟨w.heap.size + 1, 0, none⟩ o') := KeepsOthers.setCell _ _ _
 have own1 := hown.kept s1 (by cases hv : o'.ownBlock with
  | none => exact .inl rfl
  | some k => exact .inr (fun e => by have := (hown.lt k hv).1; cases e; omega))
 generalize W1.setCell ⟨w.heap.size + 1, 0, none⟩ o' = W3 at *
 have low : ∀ k, k < w.heap.size + 4 → k ≠ w.heap.size + 1 → W3.heap[k]? = W.heap[k]? := fun k h0 h1 => (f1 k h1).trans (low1 k h0)
 have k0 : KeepsOthers W W1 := ⟨hga.size, fun k ob ho hoc => by
  have hlt := (Array.getElem?_eq_some_iff.1 ho).1
  by_cases e : o.ownBlock = some k
  · rw [own_cells h2 e ho] at hoc; cases hoc
  · exact (hga.block k hlt (fun e2 => e e2.symm)).trans ho⟩
 obtain ⟨q1, q2, q3, q4⟩ := Ma.nw_spec b (n := n) (p := s + 1) (by omega)
 have hsel : Ma.sel b (Ma.nw b n (s + 1)) = Ma.sel b s ++ [s] := by rw [q3, Ma.sel_yes hb]
 have hbel : Below w0.heap.size W W3 := ((Below.refl w0.heap.size W).grown hga (by omega) (fun r e => by have := hvb r e; omega)).grown s1 (by have := hga.size; omega) (fun r e => by cases e; omega)
 refine ⟨(k0.trans k1).from _, ⟨hbel, low _ (by omega) (by omega), low _ (by omega) (by omega)⟩, ⟨o', n1, ?_⟩, (low _ (by omega) (by omega)).trans h.box, ⟨h.pin.low, h.pin.bel.trans hbel, (low _ (by omega) (by omega)).trans h.pin.b1, (low _ (by omega) (by omega)).trans h.pin.b2⟩, hlo, ?_, q2, q4⟩
 · rw [hsel, List.length_append, List.flatMap_append]
   have e1 : [s].flatMap cell = cell s := by simp
   rw [e1]
   exact own1
 · have := hga.size; have := s1.size; omega
theorem only_mk {K : Act → World → Prop} {a : Act} {w : World} (h : K a w) : Only K .normal a w := h
structure PickS (w : World) (vb : Value) (tb : TypeId) (U : World) : Prop where
 bel : Below w.heap.size w U
 box : U.heap[w.heap.size]? = some (.cells #[vb] tb (0, 0))
theorem PickS.at_box {U : World} (h : PickS w vb tb U) : U.cell? ⟨w.heap.size, 0, none⟩ = some vb := cell_of_row _ _ _ _ _ _ h.box
theorem PickS.later {U U2 : World} (h : PickS w vb tb U) (hb : Below U.heap.size U U2) : PickS w vb tb U2 := ⟨h.bel.trans (hb.mono h.bel.size), heap_keep h.box hb⟩
theorem PickS.grown {U U2 : World} {row : Option Nat} (h : PickS w vb tb U) (hg : U.grownBy U2 row) (hr : ∀ r, row = some r → w.heap.size + 4 ≤ r) : PickS w vb tb U2 :=
 ⟨h.bel.grown hg h.bel.size (fun r e => by have := hr r e; omega), (hg.block _ (Array.getElem?_eq_some_iff.1 h.box).1 (fun e => by have := hr _ e.symm; omega)).trans h.box⟩
theorem PickS.out_ {U : World} (h : PickS w vb tb U) (o : Value) : PickS w vb tb (U.setCell ⟨w.heap.size + 1, 0, none⟩ o) :=
 ⟨h.bel.setCell (by show _ ≤ w.heap.size + 1; omega) o, (Below.heap_setCell U ⟨w.heap.size + 1, 0, none⟩ o _ (by show w.heap.size ≠ w.heap.size + 1; omega)).trans h.box⟩
theorem cells_new (w : World) (l : List Value) (T : TypeId) : ∀ (j : Nat) u, l[j]? = some u → (w.alloc (.cells l.toArray T)).cell? ((⟨w.heap.size, 0, none⟩ : Addr).add j) = some u := by
 intro j u hu
 rw [Addr.add_lit, Nat.zero_add, cell_of_row _ _ _ _ _ _ (heap_alloc_new w _)]
 rw [← hu]; simp
def Picks (te : TypeId) (k : Nat) (cell : Nat → List Value) (L : List Nat) (w : World) (e : Ending) (w' : World) : Prop :=
 ∃ v, e = .returned v ∧ w'.ownsRow w.heap.size te k v L.length (L.flatMap cell) ∧ Below w.heap.size w w'
end Go.Proofs.YtliobahnekohmaaGreat
