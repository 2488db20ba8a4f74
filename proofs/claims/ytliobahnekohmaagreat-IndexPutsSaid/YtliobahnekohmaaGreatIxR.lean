import Derived.Test.YtliobahnekohmaaGreatIxO
import Derived.Test.YtliobahnekohmaaGreatMaG
import Derived.Test.YtliobahnekohmaaGreatIxK
import Derived.Test.YtliobahnekohmaaGreatMapF
import Derived.WideKeyEntry
import Derived.DeepKeys4
/-
  Postings: the walk.
-/
namespace Go.Proofs.YtliobahnekohmaaGreat
open Go.RowKit Go.Shelf
attribute [local go_sem] Oper.semAt_some
structure PoAt (w w0 : World) (vb : Array Value) (tb tn te : TypeId) (k : Nat) (v : Value) (f : Array Value) (tv tf : TypeId) (cell : Nat → List Value) (b : Nat → Bool) (n : Nat) (s : Nat) (W : World) : Prop where
 ex : ∃ o, W.heap[w.heap.size + 1]? = some (.cells #[o] tn (0, 0)) ∧ W.ownsRow (w.heap.size + 4) te k o (Ma.sel b s).length ((Ma.sel b s).flatMap cell)
 box : W.heap[w.heap.size]? = some (.cells vb tb (0, 0))
 pin : XIn w0 (w.heap.size + 2) v f tv tf W
 low : w0.heap.size ≤ w.heap.size + 1
 size : w.heap.size + 4 ≤ W.heap.size
 le : s ≤ n
 want : s < n → b s = true
variable {w w0 : World} {vb f : Array Value} {v : Value} {tb tn te tv tf : TypeId} {k n s : Nat} {cell : Nat → List Value} {b : Nat → Bool} {W W2 : World}
theorem PoAt.kept {row : Option Nat} (h : PoAt w w0 vb tb tn te k v f tv tf cell b n s W) (hg : W.grownBy W2 row) (hr : ∀ r, row = some r → w.heap.size + 4 ≤ r ∧ ∃ o : Obj, W.heap[r]? = some o ∧ o.isCells = false) : PoAt w w0 vb tb tn te k v f tv tf cell b n s W2 := by
 have hlow : ∀ k, k < w.heap.size + 4 → W2.heap[k]? = W.heap[k]? := fun k hk => hg.block k (by have := h.size; omega) (fun e => by have := (hr k e.symm).1; omega)
 obtain ⟨o, h1, h2⟩ := h.ex
 refine ⟨⟨o, (hlow _ (by omega)).trans h1, h2.kept hg ?_⟩, (hlow _ (by omega)).trans h.box, ⟨h.pin.low, h.pin.bel.grown hg (by have := h.size; have := h.low; omega) (fun r e => by have := (hr r e).1; have := h.low; omega), (hlow _ (by omega)).trans h.pin.b1, (hlow _ (by omega)).trans h.pin.b2⟩, h.low, Nat.le_trans h.size hg.size, h.le, h.want⟩
 cases hv : o.ownBlock with
 | none => exact .inl rfl
 | some k =>
  refine .inr (fun e => ?_)
  obtain ⟨_, ob, ho, hoc⟩ := hr k e.symm
  rw [own_cells h2 hv ho] at hoc
  cases hoc
theorem po_end (h : PoAt w w0 vb tb tn te k v f tv tf cell b n s W) (hlt : s < n) (hb : b s = true) {o o' : Value} {ob : Obj} {W1 : World}
 (h1 : W.heap[w.heap.size + 1]? = some (.cells #[o] tn (0, 0))) (h2 : W.ownsRow (w.heap.size + 4) te k o (Ma.sel b s).length ((Ma.sel b s).flatMap cell))
 (hown : W1.ownsRow (w.heap.size + 4) te k o' ((Ma.sel b s).length + 1) ((Ma.sel b s).flatMap cell ++ cell s)) (hg : (W.alloc ob).grownBy W1 o.ownBlock) :
 KeepsFrom (w.heap.size + 4) W (W1.setCell ⟨w.heap.size + 1, 0, none⟩ o') ∧ PKeep w0.heap.size (w.heap.size + 2) W (W1.setCell ⟨w.heap.size + 1, 0, none⟩ o') ∧
 PoAt w w0 vb tb tn te k v f tv tf cell b n (Ma.nw b n (s + 1)) (W1.setCell ⟨w.heap.size + 1, 0, none⟩ o') := by
 have hsz := h.size
 have hlo := h.low
 have hga : W.grownBy W1 o.ownBlock := grown_trans (World.grownBy_alloc W ob _) hg
 have hvb : ∀ k, o.ownBlock = some k → w.heap.size + 4 ≤ k := fun k hk => (h2.lt k hk).1
 have low1 : ∀ k, k < w.heap.size + 4 → W1.heap[k]? = W.heap[k]? := fun k hk => hga.block k (by omega) (fun e => by have := hvb k e.symm; omega)
 have s1 := grown_setCell W1 (w.heap.size + 1) 0 o'
 have n1 := heap_setCell_same W1 (w.heap.size + 1) 0 _ _ o' ((low1 _ (by omega)).trans h1)
 have f1 : ∀ k, k ≠ w.heap.size + 1 → (W1.setCell ⟨w.heap.size + 1, 0, none⟩ o').heap[k]? = W1.heap[k]? := fun k hk => heap_setCell_other W1 ⟨w.heap.size + 1, 0, none⟩ k _ hk
 have k1 : KeepsOthers W1 (W1.setCell ⟨w.heap.size + 1, 0, none⟩ o') := KeepsOthers.setCell _ _ _
 have own1 := hown.kept s1 (by cases hv : o'.ownBlock with
  | none => exact .inl rfl
  | some k => exact .inr (fun e => by have := (hown.lt k hv).1; cases e; omega))
 generalize W1.setCell ⟨w.heap.size + 1, 0, none⟩ o' = W3 at *
 have low : ∀ k, k < w.heap.size + 4 → k ≠ w.heap.size + 1 → W3.heap[k]? = W.heap[k]? := fun k h0 h1 => (f1 k h1).trans (low1 k h0)
 have k0 : KeepsOthers W W1 := ⟨hga.size, fun k ob ho hoc => by
  have hlt := (Array.getElem?_eq_some_iff.1 ho).1
  by_cases e : o.ownBlock = some k
  · rw [own_cells h2 e ho] at hoc; cases hoc
  · exact (hga.block k hlt (fun e2 => e e2.symm)).trans ho⟩
 obtain ⟨q1, q2, q3, q4⟩ := Ma.nw_spec b (n := n) (p := s + 1) (by omega)
 have hsel : Ma.sel b (Ma.nw b n (s + 1)) = Ma.sel b s ++ [s] := by rw [q3, Ma.sel_yes hb]
 have hbel : Below w0.heap.size W W3 := ((Below.refl w0.heap.size W).grown hga (by omega) (fun r e => by have := hvb r e; omega)).grown s1 (by have := hga.size; omega) (fun r e => by cases e; omega)
 refine ⟨(k0.trans k1).from _, ⟨hbel, low _ (by omega) (by omega), low _ (by omega) (by omega)⟩, ⟨o', n1, ?_⟩, (low _ (by omega) (by omega)).trans h.box, ⟨h.pin.low, h.pin.bel.trans hbel, (low _ (by omega) (by omega)).trans h.pin.b1, (low _ (by omega) (by omega)).trans h.pin.b2⟩, hlo, ?_, q2, q4⟩
 · rw [hsel, List.length_append, List.flatMap_append]
   have e1 : [s].flatMap cell = cell s := by simp
   rw [e1]
   exact own1
 · have := hga.size; have := s1.size; omega
set_option maxRecDepth 100000 in
set_option maxHeartbeats 2000000 in
theorem Postings_any (A : Option Addr) (n c : Nat) (q : Nat → EAt) (x : Lab) (w : World) (hA : EntsIn w A n q) :
 Calls Tryz.prog 21 #[.slice A n c, .agg #[.string x.1, .string x.2]] w (Picks 3 1 (fun i => [.int .i64 (i : Int)]) (Ma.sel (hasE q x) n) w) := by
 have hn := hA.len
 obtain ⟨i0, hi0, hz0, hz1, hz2⟩ := info_parts info_int
 refine (callsIn_wide (n := 3)).1 ?_
 refine callsIn_of_wp_marks Tryz.func21 rfl trivial ?_ rfl
 simp only [Tryz.ntmps21, List.size_toArray, List.length_cons, List.length_nil, Nat.reduceAdd, Nat.reduceSub, Array.replicate_succ, Array.replicate_zero, List.push_toArray, List.append_toArray, List.nil_append, List.cons_append]
 refine wpIn_wide.2 ?_
 have h2 := f_two_heap w (.cells #[.string x.1, .string x.2] 37) (.cells #[.slice none 0 0] 43)
 have ha : (w.alloc (.cells #[.string x.1, .string x.2] 37)).heap.size = w.heap.size + 1 := by simp
 have hba : Below w.heap.size w (w.alloc (.cells #[.string x.1, .string x.2] 37)) := (Below.refl _ _).alloc (Nat.le_refl _) _
 have hxa := heap_keep (heap_alloc_new w (.cells #[.string x.1, .string x.2] 37)) ((Below.refl _ (w.alloc (.cells #[.string x.1, .string x.2] 37))).alloc (Nat.le_refl _) (.cells #[.slice none 0 0] 43))
 have y0 := cell_of_row _ _ 0 _ _ _ hxa; have y1 := cell_of_row _ _ 1 _ _ _ hxa
 simp only [List.getElem?_toArray, List.getElem?_cons_zero, List.getElem?_cons_succ] at y0 y1
 have hb2 : Below (w.alloc (.cells #[.string x.1, .string x.2] 37)).heap.size (w.alloc (.cells #[.string x.1, .string x.2] 37)) ((w.alloc (.cells #[.string x.1, .string x.2] 37)).alloc (.cells #[.slice none 0 0] 43)) := (Below.refl _ _).alloc (Nat.le_refl _) _
 go_wp2_with fail
 generalize (w.alloc (.cells #[.string x.1, .string x.2] 37)).alloc (.cells #[.slice none 0 0] 43) = w2 at *
 generalize w.alloc (.cells #[.string x.1, .string x.2] 37) = wa at *
 obtain ⟨h20, h21, z2, hk2, hg2⟩ := h2
 refine (postings_any A n c x _).mono ?_; rintro e w4 ⟨rfl, hw4⟩
 have h4 := f_two_heap w2 (.cells #[.slice A n c] 22) (.cells #[.string x.1, .string x.2] 37)
 rw [← hw4] at h4
 clear hw4 y0 y1 hxa
 obtain ⟨h42, h43, z4, hk4, hg4⟩ := h4
 rw [z2] at h42 h43 z4 hk4 ⊢
 have hCa := hA.later hba
 have hpin : XIn wa (w.heap.size + 2) (.slice A n c) #[.string x.1, .string x.2] 22 37 w4 := ⟨by omega, hb2.grown hg4 (by omega) (fun r e => by cases e), h42, h43⟩
 have hhands := postings_hands wa A n c q hCa x (w.heap.size + 2) w4 hpin
 generalize hbd : hasE q x = b at *
 have HBD := Lib.hid hbd; clear hbd
 obtain ⟨q1, q2, q3, q4⟩ := Ma.nw_spec b (Nat.zero_le n)
 have start : PoAt w wa #[.string x.1, .string x.2] 37 43 3 1 (.slice A n c) #[.string x.1, .string x.2] 22 37 (fun i => [.int .i64 (i : Int)]) b n (Ma.nw b n 0) w4 :=
  ⟨⟨.slice none 0 0, (hk4 _ (by omega)).trans h21, by rw [q3]; exact World.ownsRow_nil _ _ _ _⟩, (hk4 _ (by omega)).trans h20, hpin, by omega, by omega, q2, q4⟩
 have ST := Lib.hid start; have HBA := Lib.hid hba
 clear start hk2 hk4 hg2 hg4 h20 h21 h42 h43 q1 q2 q3 q4 hba hb2 hA
 go_wp2_with fail
 refine (wpIn_wide (n := 3)).1 ?_
 refine' rangeN (gf := 88) (lb := #[.pointer (some ⟨w.heap.size + 2, 0, none⟩), .pointer (some ⟨w.heap.size + 2 + 1, 0, none⟩)]) rfl (enters_of Tryz.func88 (by kernel_rfl) rfl)
  hhands (fun h k => h.trans k) ?ka ?kb (fun _ => rfl) (PoAt w wa #[.string x.1, .string x.2] 37 43 3 1 (.slice A n c) #[.string x.1, .string x.2] 22 37 (fun i => [.int .i64 (i : Int)]) b n) ?hI ST.out _ ?assign ?body ?done
 case ka =>
  intro o1 o2 _ _
  have t := f_two_heap w4 o1 o2
  exact ⟨(Below.refl _ _).grown t.2.2.2.2 (by omega) (fun r e => by cases e), t.2.2.2.1 _ (by omega), t.2.2.2.1 _ (by omega)⟩
 case kb =>
  intro W l o o2 hl ho _
  have hlt := (Array.getElem?_eq_some_iff.1 ho).1
  exact ⟨(Below.refl _ _).grown (grownBy_putObj' W l o2) (by omega) (fun r e => by cases e; omega), f_putObj_other _ _ _ _ (by omega), f_putObj_other _ _ _ _ (by omega)⟩
 case hI =>
  intro s W W2 row h hg hr
  exact h.kept hg (fun r e => ⟨by have := (hr r e).1; omega, (hr r e).2⟩)
 case assign =>
  intro l s W K hK
  gi_wp2
  exact hK
 case body =>
  intro l s W hi hmr
  have hlt : s < n := of_decide_eq_true hmr
  have hbs : b s = true := hi.want hlt
  obtain ⟨o, h1, h2⟩ := hi.ex
  have hend := fun o' W1 => po_end (o' := o') (W1 := W1) (ob := .cells #[.int .i64 (s : Int)] 3) hi hlt hbs h1 h2
  have c1 : W.cell? ⟨w.heap.size + 1, 0, none⟩ = some o := cell_of_row _ _ _ _ _ _ h1
  have hsz := hi.size
  have hsl := Ma.sel_length b s
  have hvb : ∀ k, o.ownBlock = some k → w.heap.size + 4 ≤ k := fun k hk => (h2.lt k hk).1
  have hfacts : ∀ (w1 : World), (W.alloc (.cells #[.int .i64 (s : Int)] 3)).grownBy w1 o.ownBlock → w1.cell? ⟨w.heap.size + 1, 0, none⟩ = some o ∧ w1.frozen? ⟨w.heap.size + 1, 0, none⟩ = false := fun w1 hgrow => by
   have hlow1 : w1.heap[w.heap.size + 1]? = W.heap[w.heap.size + 1]? := (hgrow.block _ (by simp; omega) (fun e => by have := hvb _ e.symm; omega)).trans (Below.heap_alloc W _ _ (by omega))
   exact ⟨cell_of_row _ _ _ _ _ _ (hlow1.trans h1), frozen_of_row _ _ _ _ _ (hlow1.trans h1)⟩
  have c1a : (W.alloc (.cells #[.int .i64 (s : Int)] 3)).cell? ⟨w.heap.size + 1, 0, none⟩ = some o := (World.cell?_alloc_lt W _ _ (by show w.heap.size + 1 < _; omega)).trans c1
  have hb1 : (Ma.sel b s).length + 1 ≤ maxLen := by unfold maxLen; omega
  have hb2 : ((Ma.sel b s).length + 1) * 8 ≤ 140737488355328 := by omega
  have hb3 : w.heap.size + 4 ≤ (W.alloc (.cells #[.int .i64 (s : Int)] 3)).heap.size := by simp; omega
  have HEND := Lib.hid hend; have HF := Lib.hid hfacts; have HB1 := Lib.hid hb1; have HB2 := Lib.hid hb2; have HB3 := Lib.hid hb3; have H2 := Lib.hid h2
  clear hi hmr ST h1 h2 hend hfacts hb1 hb2 hb3 hvb hsl hpin hCa hbs hhands
  gi_wp2_with (gi_at_builtin; (refine wpListIn_append_own _ rfl _ _ 43 rfl (w.heap.size + 4) 3 i0 (.int .i64 0) 1 8 Tryz.underlying43 hi0 hz0 hz1 hz2 rfl (by decide) _ _ _ rfl (H2.out.alloc _) ⟨W.heap.size, 0, none⟩ 1 1 [.int .i64 (s : Int)] rfl rfl (cells_new _ _ _) (by simp [Value.oneCell']) HB1.out HB2.out HB3.out ?_); intro o' w1 hown' hgrow _; obtain ⟨g', cap', rfl⟩ := ownsRow_succ hown'; obtain ⟨e1, f1⟩ := HF.out w1 hgrow; have HFIN := Lib.hid (HEND.out _ w1 hown' hgrow); clear hown' hgrow)
  obtain ⟨z1, z2, z3⟩ := HFIN.out
  rw [z4]
  exact ⟨z1, z2, z3⟩
 case done =>
  intro D s W hD hmr hi hK
  have hge : n ≤ s := Nat.le_of_not_lt (of_decide_eq_false hmr)
  obtain rfl : s = n := by have := hi.le; omega
  obtain ⟨o, h1, h2⟩ := hi.ex
  have c1 : W.cell? ⟨w.heap.size + 1, 0, none⟩ = some o := cell_of_row _ _ _ _ _ _ h1
  have hsz := hi.size
  have HI := Lib.hid hi; have HK := Lib.hid hK; have H2 := Lib.hid h2
  clear hi hK h2 h1 hmr ST hge hpin hCa hhands
  go_wp2_with fail
  refine ⟨by simp, .inl ⟨_, _, rfl, run_takeDeferred HK.out, ?_⟩⟩
  have hk := HI.out.kept (grownBy_putObj' W D (.deferred none)) (fun r e => by cases e; exact ⟨by omega, _, HK.out, rfl⟩)
  have hown := H2.out.kept (grownBy_putObj' W D (.deferred none)) (by cases hv : o.ownBlock with
   | none => exact .inl rfl
   | some k => exact .inr (fun e => by cases e; have := own_cells H2.out hv HK.out; cases this))
  have hbl := HBA.out.trans (Below.mono (B' := w.heap.size) hk.pin.bel (by omega))
  have hof := own_from (b2 := w.heap.size) hown (Nat.le_add_right _ _)
  exact ⟨o, by simp [results, Tryz.results21, go_sem], o, rfl, by rw [HBD.out]; exact hof, hbl⟩
end Go.Proofs.YtliobahnekohmaaGreat
/-
  Labels in order, and who has them: mathematics.
-/
namespace Go.Proofs.YtliobahnekohmaaGreat
open Go.RowKit
open Go.Sort (SWO PermIn SortedIn)
namespace Ix
theorem labLess_iff (x y : Lab) : labLess x y = true ↔ La.less x.1 y.1 = true ∨ (x.1 = y.1 ∧ La.less x.2 y.2 = true) := by
 unfold labLess
 rw [Bool.or_eq_true, Bool.and_eq_true, decide_eq_true_iff]
theorem labLess_irrefl (x : Lab) : labLess x x = false := by
 rw [Bool.eq_false_iff]
 intro h
 rcases (labLess_iff x x).1 h with h | ⟨-, h⟩
 · rw [La.less_irrefl] at h; cases h
 · rw [La.less_irrefl] at h; cases h
theorem labLess_trans {x y z : Lab} (h : labLess x y = true) (h2 : labLess y z = true) : labLess x z = true := by
 rw [labLess_iff] at h h2 ⊢
 rcases h with h | ⟨e, h⟩
 · rcases h2 with h2 | ⟨e2, -⟩
   · exact Or.inl (La.less_trans h h2)
   · exact Or.inl (e2 ▸ h)
 · rcases h2 with h2 | ⟨e2, h2⟩
   · exact Or.inl (e ▸ h2)
   · exact Or.inr ⟨e.trans e2, La.less_trans h h2⟩
theorem labLess_asymm {x y : Lab} (h : labLess x y = true) : labLess y x = false := by
 rw [Bool.eq_false_iff]
 intro h2
 have := labLess_trans h h2
 rw [labLess_irrefl] at this; cases this
theorem labLess_tri (x y : Lab) : labLess x y = true ∨ x = y ∨ labLess y x = true := by
 rw [labLess_iff, labLess_iff]
 rcases La.less_tri x.1 y.1 with h | h | h
 · exact Or.inl (Or.inl h)
 · rcases La.less_tri x.2 y.2 with h2 | h2 | h2
   · exact Or.inl (Or.inr ⟨h, h2⟩)
   · exact Or.inr (Or.inl (Prod.ext h h2))
   · exact Or.inr (Or.inr (Or.inr ⟨h.symm, h2⟩))
 · exact Or.inr (Or.inr (Or.inl h))
def LRising (S : List Lab) : Prop := S.Pairwise fun a b => labLess a b = true
theorem labIns_mem {x y : Lab} : ∀ {S : List Lab}, y ∈ labIns x S ↔ y = x ∨ y ∈ S
 | [] => by simp [labIns]
 | z :: S => by
  unfold labIns
  split
  · rw [List.mem_cons, labIns_mem, List.mem_cons]
    constructor
    · rintro (h | h | h)
      · exact Or.inr (Or.inl h)
      · exact Or.inl h
      · exact Or.inr (Or.inr h)
    · rintro (h | h | h)
      · exact Or.inr (Or.inl h)
      · exact Or.inl h
      · exact Or.inr (Or.inr h)
  · split
    · rename_i h
      subst h
      constructor
      · exact Or.inr
      · rintro (h | h)
        · rw [h]; exact List.mem_cons_self ..
        · exact h
    · exact List.mem_cons
theorem labIns_rising {x : Lab} : ∀ {S : List Lab}, LRising S → LRising (labIns x S)
 | [], _ => List.pairwise_singleton _ _
 | z :: S, h => by
  obtain ⟨h1, h2⟩ := List.pairwise_cons.1 h
  unfold labIns
  split
  · rename_i hlt
    refine List.pairwise_cons.2 ⟨fun y hy => ?_, labIns_rising h2⟩
    rcases labIns_mem.1 hy with e | e
    · rw [e]; exact hlt
    · exact h1 y e
  · split
    · exact h
    · rename_i h3 h4
      have hxz : labLess x z = true := by
       rcases labLess_tri x z with h | h | h
       · exact h
       · exact absurd h.symm h4
       · exact absurd h h3
      refine List.pairwise_cons.2 ⟨fun y hy => ?_, h⟩
      rcases List.mem_cons.1 hy with e | e
      · rw [e]; exact hxz
      · exact labLess_trans hxz (h1 y e)
theorem labFold_go : ∀ (W S : List Lab), LRising S → LRising (W.foldl (fun S x => labIns x S) S) ∧ ∀ y, y ∈ W.foldl (fun S x => labIns x S) S ↔ y ∈ W ∨ y ∈ S
 | [], S, h => ⟨h, fun y => by simp⟩
 | x :: W, S, h => by
  obtain ⟨h1, h2⟩ := labFold_go W (labIns x S) (labIns_rising h)
  refine ⟨h1, fun y => ?_⟩
  show y ∈ W.foldl _ (labIns x S) ↔ _
  rw [h2, labIns_mem, List.mem_cons]
  constructor
  · rintro (h | h | h)
    · exact Or.inl (Or.inr h)
    · exact Or.inl (Or.inl h)
    · exact Or.inr h
  · rintro ((h | h) | h)
    · exact Or.inr (Or.inl h)
    · exact Or.inl h
    · exact Or.inr (Or.inr h)
theorem labAll_rising (L : List Ent) : LRising (labAll L) := (labFold_go _ [] List.Pairwise.nil).1
theorem labAll_mem (L : List Ent) (y : Lab) : y ∈ labAll L ↔ y ∈ L.flatMap (·.l) := by
 have := (labFold_go (L.flatMap (·.l)) [] List.Pairwise.nil).2 y
 rw [show labAll L = (L.flatMap (·.l)).foldl (fun S x => labIns x S) [] from rfl, this]; simp
theorem lrising_unique : ∀ {S T : List Lab}, LRising S → LRising T → (∀ y, y ∈ S ↔ y ∈ T) → S = T
 | [], [], _, _, _ => rfl
 | [], y :: T, _, _, h => by have := (h y).2 (List.mem_cons_self ..); cases this
 | x :: S, [], _, _, h => by have := (h x).1 (List.mem_cons_self ..); cases this
 | x :: S, y :: T, hS, hT, h => by
  obtain ⟨a1, a2⟩ := List.pairwise_cons.1 hS
  obtain ⟨b1, b2⟩ := List.pairwise_cons.1 hT
  have hxy : x = y := by
   rcases List.mem_cons.1 ((h x).1 (List.mem_cons_self ..)) with e | e
   · exact e
   · rcases List.mem_cons.1 ((h y).2 (List.mem_cons_self ..)) with e2 | e2
     · exact e2.symm
     · have h1 := b1 x e
       have h2 := a1 y e2
       have h3 := labLess_asymm h1
       rw [h2] at h3; cases h3
  subst hxy
  have hx1 : x ∉ S := fun hm => by have := a1 x hm; rw [labLess_irrefl] at this; cases this
  have hx2 : x ∉ T := fun hm => by have := b1 x hm; rw [labLess_irrefl] at this; cases this
  rw [lrising_unique a2 b2 (fun z => ?_)]
  constructor
  · intro hz
    rcases List.mem_cons.1 ((h z).1 (List.mem_cons_of_mem _ hz)) with e | e
    · rw [e] at hz; exact absurd hz hx1
    · exact e
  · intro hz
    rcases List.mem_cons.1 ((h z).2 (List.mem_cons_of_mem _ hz)) with e | e
    · rw [e] at hz; exact absurd hz hx2
    · exact e
def isIn (x : Lab) (S : List Lab) : Bool := S.any fun y => decide (y = x)
theorem isIn_iff {x : Lab} {S : List Lab} : isIn x S = true ↔ x ∈ S := by
 unfold isIn
 rw [List.any_eq_true]
 exact ⟨fun ⟨y, hy, e⟩ => of_decide_eq_true e ▸ hy, fun h => ⟨x, h, decide_eq_true rfl⟩⟩
def firsts (W : List Lab) : List Lab := W.foldl (fun S x => if isIn x S = true then S else S ++ [x]) []
theorem firsts_snoc (W : List Lab) (x : Lab) : firsts (W ++ [x]) = if isIn x (firsts W) = true then firsts W else firsts W ++ [x] := by
 unfold firsts
 rw [List.foldl_append]; rfl
theorem foldr_snoc {P : List Lab → Prop} (h0 : P []) (h1 : ∀ W x, P W → P (W ++ [x])) (W : List Lab) : P W := by
 have : ∀ V : List Lab, P V.reverse := fun V => by
  induction V with
  | nil => exact h0
  | cons x V ih => rw [List.reverse_cons]; exact h1 _ _ ih
 have := this W.reverse
 rwa [List.reverse_reverse] at this
theorem firsts_mem (W : List Lab) : ∀ y, y ∈ firsts W ↔ y ∈ W := by
 refine foldr_snoc (P := fun W => ∀ y, y ∈ firsts W ↔ y ∈ W) (fun y => Iff.rfl) (fun W x ih y => ?_) W
 rw [firsts_snoc, List.mem_append, List.mem_singleton]
 by_cases h : isIn x (firsts W) = true
 · rw [if_pos h, ih]
   constructor
   · exact Or.inl
   · rintro (h2 | h2)
     · exact h2
     · rw [h2]; exact (ih x).1 (isIn_iff.1 h)
 · rw [if_neg h, List.mem_append, List.mem_singleton, ih]
theorem firsts_nodup (W : List Lab) : (firsts W).Nodup := by
 refine foldr_snoc (P := fun W => (firsts W).Nodup) List.Pairwise.nil (fun W x ih => ?_) W
 rw [firsts_snoc]
 by_cases h : isIn x (firsts W) = true
 · rw [if_pos h]; exact ih
 · rw [if_neg h]
   refine List.nodup_append.2 ⟨ih, by simp, fun a ha b hb => ?_⟩
   rw [List.mem_singleton.1 hb]
   intro e
   exact h (isIn_iff.2 (e ▸ ha))
theorem firsts_length (W : List Lab) : (firsts W).length ≤ W.length := by
 refine foldr_snoc (P := fun W => (firsts W).length ≤ W.length) (Nat.le_refl _) (fun W x ih => ?_) W
 rw [firsts_snoc, List.length_append, List.length_singleton]
 split
 · omega
 · rw [List.length_append, List.length_singleton]; omega
theorem lt_cmpL (x y : Lab) : ltOf cmpL x y = labLess x y := by
 unfold ltOf cmpL cmpS labLess
 rcases La.less_tri x.1 y.1 with h | h | h
 · rw [h]; simp
 · rw [h]
   rw [La.less_irrefl]
   simp only [if_false, Bool.false_eq_true, if_true, Bool.false_or, decide_true, Bool.true_and]
   cases h1 : La.less x.2 y.2
   · simp only [Bool.false_eq_true, if_false]
     split <;> simp
   · simp
 · have h2 : La.less x.1 y.1 = false := La.less_asymm h
   rw [h2, h]
   have h3 : x.1 ≠ y.1 := fun e => by rw [e, La.less_irrefl] at h; cases h
   simp [h3]
theorem swo_labs : SWO (ltOf cmpL) where
 irrefl x := by rw [lt_cmpL]; exact labLess_irrefl x
 trans x y z h1 h2 := by rw [lt_cmpL] at *; exact labLess_trans h1 h2
 ntrans x y z h1 h2 := by
  rw [lt_cmpL] at *
  rcases labLess_tri x z with h | h | h
  · rcases labLess_tri x y with e | e | e
    · rw [e] at h1; cases h1
    · rw [e] at h; rw [h] at h2; cases h2
    · have := labLess_trans e h; rw [this] at h2; cases h2
  · rw [h]; exact labLess_irrefl z
  · exact labLess_asymm h
theorem sorted_labs {d d' : Array Lab} {L : List Ent} (hd : d.toList = firsts (L.flatMap (·.l))) (hp : PermIn 0 d.size d d') (hs : SortedIn (ltOf cmpL) 0 d.size d') : d'.toList = labAll L := by
 obtain ⟨hz, -, hq⟩ := hp
 have e1 : (d'.extract 0 d.size).toList = d'.toList := by rw [← hz]; simp
 have e2 : (d.extract 0 d.size).toList = d.toList := by simp
 rw [e1, e2] at hq
 have hn : d'.toList.Nodup := hq.nodup_iff.2 (by rw [hd]; exact firsts_nodup _)
 refine lrising_unique ?_ (labAll_rising L) (fun y => ?_)
 · refine List.pairwise_iff_getElem.2 fun i j hi hj hij => ?_
   have hi2 : i < d'.size := by simpa using hi
   have hj2 : j < d'.size := by simpa using hj
   have h := hs i j (Nat.zero_le _) hij (by omega)
   rw [getElem!_pos d' j hj2, getElem!_pos d' i hi2, lt_cmpL] at h
   rcases labLess_tri d'.toList[i] d'.toList[j] with h1 | h1 | h1
   · exact h1
   · exact absurd h1 (List.pairwise_iff_getElem.1 hn i j hi hj hij)
   · rw [Array.getElem_toList, Array.getElem_toList] at h1
     rw [h1] at h; cases h
 · rw [labAll_mem, hq.mem_iff, hd, firsts_mem]
theorem posts_sel (q : Nat → EAt) (x : Lab) (n : Nat) : posts (entL q n) x = Ma.sel (hasE q x) n := by
 unfold posts Ma.sel
 rw [entL_length]
 refine List.filter_congr fun i hi => ?_
 rw [entL_at q (List.mem_range.1 hi), ← hasN_list]; rfl
def cnt (x : Lab) (W : List Lab) : Nat := W.countP fun y => decide (y = x)
theorem cnt_zero {x : Lab} {W : List Lab} (h : x ∉ W) : cnt x W = 0 := by
 unfold cnt
 rw [List.countP_eq_zero]
 intro y hy e
 exact h (of_decide_eq_true e ▸ hy)
theorem cnt_pos {x : Lab} {W : List Lab} (h : x ∈ W) : 0 < cnt x W := List.countP_pos_iff.2 ⟨x, h, decide_eq_true rfl⟩
theorem cnt_le (x : Lab) (W : List Lab) : cnt x W ≤ W.length := List.countP_le_length
theorem cnt_append (x : Lab) (V W : List Lab) : cnt x (V ++ W) = cnt x V + cnt x W := List.countP_append
theorem cnt_snoc (x y : Lab) (W : List Lab) : cnt x (W ++ [y]) = cnt x W + if y = x then 1 else 0 := by
 rw [cnt_append]
 unfold cnt
 rw [List.countP_singleton]
 by_cases h : y = x <;> simp [h]
theorem cnt_nodup (x : Lab) : ∀ {l : List Lab}, l.Nodup → cnt x l = if isIn x l = true then 1 else 0
 | [], _ => rfl
 | y :: l, h => by
  obtain ⟨h1, h2⟩ := List.nodup_cons.1 h
  have ih := cnt_nodup x h2
  have e : cnt x (y :: l) = cnt x [y] + cnt x l := cnt_append x [y] l
  have e2 : isIn x (y :: l) = (decide (y = x) || isIn x l) := rfl
  have e3 : cnt x [y] = if y = x then 1 else 0 := by
   unfold cnt
   rw [List.countP_singleton]
   by_cases h : y = x <;> simp [h]
  rw [e, e2, e3]
  by_cases hy : y = x
  · subst hy
    rw [cnt_zero h1]
    simp
  · rw [ih]; simp [hy]
theorem count_sel (q : Nat → EAt) (x : Lab) : ∀ n, (∀ i, i < n → (q i).e.l.Nodup) → cnt x ((entL q n).flatMap (·.l)) = (Ma.sel (hasE q x) n).length
 | 0, _ => rfl
 | n + 1, h => by
  rw [entL_succ, List.flatMap_append, cnt_append, count_sel q x n fun i hi => h i (by omega)]
  have e : ([(q n).e].flatMap (·.l)) = (q n).e.l := by simp
  rw [e, cnt_nodup x (h n (by omega))]
  have hh : hasE q x n = isIn x (q n).e.l := hasN_list _ _
  by_cases hb : hasE q x n = true
  · rw [Ma.sel_yes hb, if_pos (hh ▸ hb), List.length_append, List.length_singleton]
  · rw [Ma.sel_no (by simpa using hb), if_neg (hh ▸ hb)]; rfl
theorem diffs_snoc (i : Nat) : ∀ (P : List Nat) (a : Nat), diffsB a (P ++ [i]) = diffsB a P ++ Num.smallB (i - P.getLast?.getD a)
 | [], a => by
  show Num.smallB (i - a) ++ ByteArray.empty = ByteArray.empty ++ Num.smallB (i - a)
  rw [ByteArray.append_empty, ByteArray.empty_append]
 | p :: P, a => by
  have hl : (p :: P).getLast?.getD a = P.getLast?.getD p := by
   cases P with
   | nil => rfl
   | cons z T =>
    rw [List.getLast?_cons_cons]
    cases h : (z :: T).getLast? with
    | none => simp at h
    | some v => rfl
  rw [hl]
  show Num.smallB (p - a) ++ diffsB p (P ++ [i]) = (Num.smallB (p - a) ++ diffsB p P) ++ _
  rw [diffs_snoc i P p, ByteArray.append_assoc]
theorem diffs_size : ∀ (P : List Nat) (a : Nat), (diffsB a P).size ≤ 10 * P.length
 | [], _ => Nat.le_refl _
 | p :: P, a => by
  have h1 := Fr.small_le (p - a)
  have ih := diffs_size P p
  show (Num.smallB (p - a) ++ diffsB p P).size ≤ _
  rw [ByteArray.size_append, List.length_cons]; omega
theorem postsB_snoc (L : List Ent) (x : Lab) : ∀ S, postsB L (S ++ [x]) = postsB L S ++ postB L x
 | [] => by show postB L x ++ ByteArray.empty = ByteArray.empty ++ postB L x; rw [ByteArray.append_empty, ByteArray.empty_append]
 | y :: S => by
  show postB L y ++ postsB L (S ++ [x]) = (postB L y ++ postsB L S) ++ postB L x
  rw [postsB_snoc L x S, ByteArray.append_assoc]
theorem postB_size (L : List Ent) (hL : L.length ≤ 20) (x : Lab) : (postB L x).size ≤ 210 := by
 have h1 := Fr.small_le (posts L x).length
 have h2 := diffs_size (posts L x) 0
 have h3 : (posts L x).length ≤ L.length := by
  unfold posts
  have := List.length_filter_le (fun i => (at_ L i).l.any fun y => decide (y = x)) (List.range L.length)
  rwa [List.length_range] at this
 unfold postB
 rw [ByteArray.size_append]; omega
theorem postsB_size (L : List Ent) (hL : L.length ≤ 20) : ∀ S, (postsB L S).size ≤ 210 * S.length
 | [] => Nat.le_refl _
 | y :: S => by
  have h1 := postB_size L hL y
  have ih := postsB_size L hL S
  show (postB L y ++ postsB L S).size ≤ _
  rw [ByteArray.size_append, List.length_cons]; omega
def last (b : Nat → Bool) (s : Nat) : Nat := (Ma.sel b s).getLast?.getD 0
theorem last_le (b : Nat → Bool) (s : Nat) : last b s ≤ s := by
 unfold last
 cases h : (Ma.sel b s).getLast? with
 | none => exact Nat.zero_le _
 | some v =>
  have := List.mem_of_getLast? h
  unfold Ma.sel at this
  have := List.mem_range.1 (List.mem_filter.1 this).1
  exact Nat.le_of_lt this
end Ix
end Go.Proofs.YtliobahnekohmaaGreat
/-
  A map whose keys are labels, and what m[k]++ does.
-/
namespace Go.Proofs.YtliobahnekohmaaGreat
open Go.RowKit
open Go.MapKept
open Go.ChangeMaps (setBlock modify_eq_set heap_setBlock_same heap_setBlock_other)
open Go.Maps (Keyed)
open Go.WideElems (findIdx_born findIdx_arr modify_last set_self)
theorem lab_row : (37 : TypeId) < Tryz.prog.types.size := of_decide_eq_true (by kernel_rfl)
theorem lab_laid : laidOutB Tryz.prog = true := by kernel_rfl
theorem lab_deep : Tryz.prog.keyTypeAt 2 37 = true := by kernel_rfl
theorem llaw : Keyed Tryz.prog 37 := by
 refine Maps.Keyed.of_law (deep_law_laid lab_laid (m := 2) (by omega) lab_row lab_deep ?_)
 rw [Tryz.underlying37]
set_option maxRecDepth 100000 in
theorem lab_key : Tryz.prog.keyType 37 = true := by kernel_rfl
theorem lab_formed (c : Array Value) (h : c.size = 2) : (Value.agg c).formed Tryz.prog 37 = true := by
 have hc : Tryz.prog.cellsOf 37 = 2 := by kernel_rfl
 simp [Value.formed, Tryz.underlying37, hc, h]
theorem lab_lits (d : Nat) (a b : ByteArray) (ha : a.size ≤ maxLen) (hb : b.size ≤ maxLen) : Tryz.prog.keyLits (d + 2) 37 [.string a, .string b] = some [.string a.data.toList, .string b.data.toList] := by
 have hc : Tryz.prog.cellsOf 37 = 2 := by kernel_rfl
 have hs : Tryz.prog.cellsOf 9 = 1 := by kernel_rfl
 unfold Program.keyLits
 simp [Tryz.underlying37, hc, hs, Program.keyLits, Tryz.underlying9, ha, hb]
theorem lkey (x : Lab) (ha : x.1.size ≤ maxLen) (hb : x.2.size ≤ maxLen) : ∃ l, keyOf Tryz.prog 37 (.agg #[.string x.1, .string x.2]) = some l := by
 have hf : (Value.agg #[.string x.1, .string x.2]).formed Tryz.prog 37 = true := lab_formed _ rfl
 unfold keyOf
 rw [Tryz.underlying37]
 simp only [lab_key, hf, Bool.and_self, if_true]
 obtain ⟨m, hm⟩ : ∃ m, Tryz.prog.types.size + 1 = m + 2 := ⟨Tryz.prog.types.size - 1, by have : 1 ≤ Tryz.prog.types.size := of_decide_eq_true (by kernel_rfl); omega⟩
 rw [hm]
 simp only [Value.cells, lab_lits m _ _ ha hb]
 exact ⟨_, rfl⟩
theorem MapIs.entry {P : Program} {k t e : TypeId} {w : World} {b n : Nat} {f : Value → Option Value} (h : MapIs P k w b n f) (K : Keyed P k) (ht : P.underlying t = some (.map k e)) {z : Value} (hz : ∀ u : World, (zeroValue e).run P u = .ok z u) {key : Value} {kl : Lit} (hkey : keyOf P k key = some kl) :
 ∃ (st : Nat) (es1 : Array MapEntry) (clock1 : Nat), (∀ U : World, U.heap[b]? = w.heap[b]? → (Instr.mapEntry t (.map (some b)) key).run P U = .ok (.tuple #[(f key).getD z, goInt st]) (setBlock U b (.map es1 clock1))) ∧
  (∀ f1 : Value → Option Value, f1 key = some ((f key).getD z) → (∀ x, x ≠ key → f1 x = f x) → ∀ U : World, U.heap[b]? = some (.map es1 clock1) → MapIs P k U b (n + 1) f1) ∧
  ∀ (g : Value → Option Value) (val : Value), g key = some val → (∀ x, x ≠ key → g x = f x) → ∃ es' clock', (∀ U : World, U.heap[b]? = some (.map es1 clock1) → (Instr.entryStore t (.map (some b)) (goInt st) val).run P U = .ok () (setBlock U b (.map es' clock'))) ∧ ∀ U : World, U.heap[b]? = some (.map es' clock') → MapIs P k U b (n + 1) g := by
 have hput := fun (g : Value → Option Value) (val : Value) (hg1 : g key = some val) (hg2 : ∀ x, x ≠ key → g x = f x) => h.put K ht hkey g hg1 hg2
 obtain ⟨es, clock, hb, hs, hsz, hk, hf⟩ := h
 have hlt : b < w.heap.size := (Array.getElem?_eq_some_iff.1 hb).1
 obtain ⟨s1, s2, -⟩ := (stamped_iff es clock).1 hs
 have same : ∀ (g : Value → Option Value) (val : Value) (X : Obj), g key = some val → (∀ x, x ≠ key → g x = f x) → (Instr.mapUpdate t (.map (some b)) key val).run P w = .ok () (setBlock w b X) → ∀ U : World, U.heap[b]? = some X → MapIs P k U b (n + 1) g := by
  intro g val X hg1 hg2 hrun U hU
  obtain ⟨w', r, hm, -, -⟩ := hput g val hg1 hg2
  rw [hrun] at r
  cases r
  exact MapIs.same hm (hU.trans (heap_setBlock_same hb X).symm)
 rcases K.find w hkey es.toList hk with ⟨h1, h2⟩ | ⟨j, e0, h1, h2, h3⟩
 · have hfk : f key = none := by
    cases hfv : f key with
    | none => rfl
    | some v =>
     obtain ⟨x, hx, e1, -⟩ := (hf key kl hkey v).1 hfv
     exact absurd e1 (h2 x hx)
   rw [hfk]
   have hup : ∀ val, (Instr.mapUpdate t (.map (some b)) key val).run P w = .ok () (setBlock w b (.map (es.push ⟨key, val, clock⟩) (clock + 1))) := fun val => by
    simp [Instr.mapUpdate, run_underlying ht, MapKept.run_getObj_map hb, K.check w false hkey, h1, MapKept.run_setObj_map _ hb, Result.andThen, setBlock]
   refine ⟨clock, es.push ⟨key, z, clock⟩, clock + 1, fun U hU => ?_, fun f1 h1 h2 U hU => same f1 z _ h1 h2 (hup z) U hU, fun g val hg1 hg2 => ⟨es.push ⟨key, val, clock⟩, clock + 1, fun U hU => ?_, fun U hU => same g val _ hg1 hg2 (hup val) U hU⟩⟩
   · have hbU : U.heap[b]? = some (.map es clock) := hU.trans hb
     have h1U : (Instr.findKey k key es.toList).run P U = .ok none U := by
      rcases K.find U hkey es.toList hk with ⟨h, -⟩ | ⟨j, e0, -, h, h3⟩
      · exact h
      · exact absurd h3 (h2 e0 (List.mem_of_getElem? h))
     simp [Instr.mapEntry, run_underlying ht, MapKept.run_getObj_map hbU, K.check U false hkey, h1U, hz, MapKept.run_setObj_map _ hbU, Result.andThen, setBlock]
   · have hidx : (es.push ⟨key, z, clock⟩).findIdx? (fun e => ((e.born : Nat) : Int) == ((clock : Nat) : Int)) = some es.size := by
      rw [findIdx_arr]
      have := findIdx_born (l := (es.push ⟨key, z, clock⟩).toList) (j := es.size) (e0 := ⟨key, z, clock⟩) (by
       simp only [Array.toList_push, List.map_append, List.map_cons, List.map_nil]
       refine List.nodup_append.2 ⟨s2, by simp, fun a ha c hc e1 => ?_⟩
       simp only [List.mem_singleton] at hc
       obtain ⟨x, hx, rfl⟩ := List.mem_map.1 ha
       have := s1 x hx
       omega) (by simp)
      exact this
     have hmod : (es.push ⟨key, z, clock⟩).modify es.size (fun e => { e with val := val }) = es.push ⟨key, val, clock⟩ := by
      apply Array.ext'
      rw [Array.toList_modify, Array.toList_push, Array.toList_push, ← Array.length_toList, modify_last]
     simp [Instr.entryStore, MapKept.run_getObj_map hU, asInt, asIntOf, goInt, hidx, hmod, MapKept.run_setObj_map _ hU, Result.andThen, setBlock]
 · have hj : es[j]? = some e0 := by simpa using h2
   have hfk : f key = some e0.val := (hf key kl hkey e0.val).2 ⟨e0, List.mem_of_getElem? h2, h3, rfl⟩
   have hsame : es.modify j (fun e => { e with key := key }) = es := by
    apply Array.ext'
    rw [Array.toList_modify, modify_eq_set _ _ _ _ h2]
    have : ({ e0 with key := key } : MapEntry) = e0 := by rw [← h3]
    rw [this]
    exact set_self _ _ _ h2
   have hup : ∀ val, (Instr.mapUpdate t (.map (some b)) key val).run P w = .ok () (setBlock w b (.map (es.modify j (fun e' => { e' with key := key, val := val })) clock)) := fun val => by
    simp [Instr.mapUpdate, run_underlying ht, MapKept.run_getObj_map hb, K.check w false hkey, h1, hj, h3, K.stays w hkey, MapKept.run_setObj_map _ hb, Result.andThen, setBlock]
   have hself : es.modify j (fun e' => { e' with key := key, val := e0.val }) = es := by
    apply Array.ext'
    rw [Array.toList_modify, modify_eq_set _ _ _ _ h2]
    have : ({ e0 with key := key, val := e0.val } : MapEntry) = e0 := by rw [← h3]
    rw [this]
    exact set_self _ _ _ h2
   rw [hfk]
   refine ⟨e0.born, es, clock, fun U hU => ?_, fun f1 h1 h2 U hU => same f1 e0.val (.map es clock) h1 h2 (by rw [hup, hself]) U hU, fun g val hg1 hg2 => ⟨es.modify j (fun e' => { e' with key := key, val := val }), clock, fun U hU => ?_, fun U hU => same g val _ hg1 hg2 (hup val) U hU⟩⟩
   · have hbU : U.heap[b]? = some (.map es clock) := hU.trans hb
     have h1U : (Instr.findKey k key es.toList).run P U = .ok (some (j, e0.val)) U := by
      rcases K.find U hkey es.toList hk with ⟨-, h⟩ | ⟨j2, e2, h, h4, h5⟩
      · exact absurd h3 (h e0 (List.mem_of_getElem? h2))
      · have hjj : j2 = j := by
         have hp := ((stamped_iff es clock).1 hs).2.2
         rw [List.pairwise_iff_getElem] at hp
         obtain ⟨i1, i2⟩ := List.getElem?_eq_some_iff.1 h4
         obtain ⟨i3, i4⟩ := List.getElem?_eq_some_iff.1 h2
         rcases Nat.lt_trichotomy j2 j with hl | hl | hl
         · exact absurd (by rw [i2, i4, h5, h3]) (hp j2 j i1 i3 hl)
         · exact hl
         · exact absurd (by rw [i2, i4, h5, h3]) (hp j j2 i3 i1 hl)
        subst hjj
        rw [h2] at h4
        cases h4
        exact h
     simp [Instr.mapEntry, run_underlying ht, MapKept.run_getObj_map hbU, K.check U false hkey, h1U, hj, h3, K.stays U hkey, hsame, MapKept.run_setObj_map _ hbU, Result.andThen, setBlock]
   · have hidx : es.findIdx? (fun e => ((e.born : Nat) : Int) == ((e0.born : Nat) : Int)) = some j := by
      rw [findIdx_arr]
      exact findIdx_born s2 h2
     have hmod : es.modify j (fun e => { e with val := val }) = es.modify j (fun e' => { e' with key := key, val := val }) := by
      apply Array.ext'
      rw [Array.toList_modify, Array.toList_modify, modify_eq_set _ _ _ _ h2, modify_eq_set _ _ _ _ h2, ← h3]
     simp [Instr.entryStore, MapKept.run_getObj_map hU, asInt, asIntOf, goInt, hidx, hmod, MapKept.run_setObj_map _ hU, Result.andThen, setBlock]
def cntF (W : List Lab) : Value → Option Value
 | .agg ⟨[.string a, .string b]⟩ => if Ix.cnt (a, b) W = 0 then none else some (.int .i64 ((Ix.cnt (a, b) W : Nat) : Int))
 | _ => none
theorem cntF_lab (W : List Lab) (x : Lab) : cntF W (.agg #[.string x.1, .string x.2]) = if Ix.cnt x W = 0 then none else some (.int .i64 ((Ix.cnt x W : Nat) : Int)) := rfl
theorem cntF_get (W : List Lab) (x : Lab) : (cntF W (.agg #[.string x.1, .string x.2])).getD (.int .i64 0) = .int .i64 ((Ix.cnt x W : Nat) : Int) := by
 rw [cntF_lab]
 by_cases h : Ix.cnt x W = 0
 · rw [if_pos h, h]; rfl
 · rw [if_neg h]; rfl
theorem cntF_more (W : List Lab) (x : Lab) : cntF (W ++ [x]) (.agg #[.string x.1, .string x.2]) = some (.int .i64 (((Ix.cnt x W : Nat) : Int) + 1)) := by
 rw [cntF_lab, Ix.cnt_snoc, if_pos rfl, if_neg (by omega)]; rfl
theorem cntF_other (W : List Lab) (x : Lab) (v : Value) (h : v ≠ .agg #[.string x.1, .string x.2]) : cntF (W ++ [x]) v = cntF W v := by
 unfold cntF
 split
 · rename_i a b
   have hne : ¬ x = (a, b) := fun e => h (by rw [e])
   rw [Ix.cnt_snoc, if_neg hne, Nat.add_zero]
 · rfl
end Go.Proofs.YtliobahnekohmaaGreat
