/-
  Postings: the walk.
-/
import Derived.Test.YtliobahnekohmaaGreatIxO
import Derived.Test.YtliobahnekohmaaGreatMaG
namespace Go.Proofs.YtliobahnekohmaaGreat
open Go.RowKit Go.Shelf
attribute [local go_sem] Oper.semAt_some
/-- before a round: a box, the row so far, the function's two boxes -/
structure PoAt (w w0 : World) (vb : Array Value) (tb tn te : TypeId) (k : Nat) (v : Value) (f : Array Value) (tv tf : TypeId) (cell : Nat → List Value) (b : Nat → Bool) (n : Nat) (s : Nat) (W : World) : Prop where
  ex : ∃ o, W.heap[w.heap.size + 1]? = some (.cells #[o] tn (0, 0)) ∧ W.ownsRow (w.heap.size + 4) te k o (Ma.sel b s).length ((Ma.sel b s).flatMap cell)
  box : W.heap[w.heap.size]? = some (.cells vb tb (0, 0))
  pin : XIn w0 (w.heap.size + 2) v f tv tf W
  low : w0.heap.size ≤ w.heap.size + 1
  size : w.heap.size + 4 ≤ W.heap.size
  le : s ≤ n
  want : s < n → b s = true
variable {w w0 : World} {vb f : Array Value} {v : Value} {tb tn te tv tf : TypeId} {k n s : Nat} {cell : Nat → List Value} {b : Nat → Bool} {W W2 : World}
theorem PoAt.kept {row : Option Nat} (h : PoAt w w0 vb tb tn te k v f tv tf cell b n s W) (hg : W.grownBy W2 row) (hr : ∀ r, row = some r → w.heap.size + 4 ≤ r ∧ ∃ o : Obj, W.heap[r]? = some o ∧ o.isCells = false) : PoAt w w0 vb tb tn te k v f tv tf cell b n s W2 := by
  have hlow : ∀ k, k < w.heap.size + 4 → W2.heap[k]? = W.heap[k]? := fun k hk => hg.block k (by have := h.size; omega) (fun e => by have := (hr k e.symm).1; omega)
  obtain ⟨o, h1, h2⟩ := h.ex
  refine ⟨⟨o, (hlow _ (by omega)).trans h1, h2.kept hg ?_⟩, (hlow _ (by omega)).trans h.box, ⟨h.pin.low, h.pin.bel.grown hg (by have := h.size; have := h.low; omega) (fun r e => by have := (hr r e).1; have := h.low; omega), (hlow _ (by omega)).trans h.pin.b1, (hlow _ (by omega)).trans h.pin.b2⟩, h.low, Nat.le_trans h.size hg.size, h.le, h.want⟩
  cases hv : o.ownBlock with
  | none => exact .inl rfl
  | some k =>
    refine .inr (fun e => ?_)
    obtain ⟨_, ob, ho, hoc⟩ := hr k e.symm
    rw [own_cells h2 hv ho] at hoc
    cases hoc
/-- a round's end -/
theorem po_end (h : PoAt w w0 vb tb tn te k v f tv tf cell b n s W) (hlt : s < n) (hb : b s = true) {o o' : Value} {ob : Obj} {W1 : World}
    (h1 : W.heap[w.heap.size + 1]? = some (.cells #[o] tn (0, 0))) (h2 : W.ownsRow (w.heap.size + 4) te k o (Ma.sel b s).length ((Ma.sel b s).flatMap cell))
    (hown : W1.ownsRow (w.heap.size + 4) te k o' ((Ma.sel b s).length + 1) ((Ma.sel b s).flatMap cell ++ cell s)) (hg : (W.alloc ob).grownBy W1 o.ownBlock) :
    KeepsFrom (w.heap.size + 4) W (W1.setCell ⟨w.heap.size + 1, 0, none⟩ o') ∧ PKeep w0.heap.size (w.heap.size + 2) W (W1.setCell ⟨w.heap.size + 1, 0, none⟩ o') ∧
    PoAt w w0 vb tb tn te k v f tv tf cell b n (Ma.nw b n (s + 1)) (W1.setCell ⟨w.heap.size + 1, 0, none⟩ o') := by
  have hsz := h.size
  have hlo := h.low
  have hga : W.grownBy W1 o.ownBlock := grown_trans (World.grownBy_alloc W ob _) hg
  have hvb : ∀ k, o.ownBlock = some k → w.heap.size + 4 ≤ k := fun k hk => (h2.lt k hk).1
  have low1 : ∀ k, k < w.heap.size + 4 → W1.heap[k]? = W.heap[k]? := fun k hk => hga.block k (by omega) (fun e => by have := hvb k e.symm; omega)
  have s1 := grown_setCell W1 (w.heap.size + 1) 0 o'
  have n1 := heap_setCell_same W1 (w.heap.size + 1) 0 _ _ o' ((low1 _ (by omega)).trans h1)
  have f1 : ∀ k, k ≠ w.heap.size + 1 → (W1.setCell ⟨w.heap.size + 1, 0, none⟩ o').heap[k]? = W1.heap[k]? := fun k hk => heap_setCell_other W1 ⟨w.heap.size + 1, 0, none⟩ k _ hk
  have k1 : KeepsOthers W1 (W1.setCell ⟨w.heap.size + 1, 0, none⟩ o') := KeepsOthers.setCell _ _ _
  have own1 := hown.kept s1 (by cases hv : o'.ownBlock with
    | none => exact .inl rfl
    | some k => exact .inr (fun e => by have := (hown.lt k hv).1; cases e; omega))
  generalize W1.setCell ⟨w.heap.size + 1, 0, none⟩ o' = W3 at *
  have low : ∀ k, k < w.heap.size + 4 → k ≠ w.heap.size + 1 → W3.heap[k]? = W.heap[k]? := fun k h0 h1 => (f1 k h1).trans (low1 k h0)
  have k0 : KeepsOthers W W1 := ⟨hga.size, fun k ob ho hoc => by
    have hlt := (Array.getElem?_eq_some_iff.1 ho).1
    by_cases e : o.ownBlock = some k
    · rw [own_cells h2 e ho] at hoc; cases hoc
    · exact (hga.block k hlt (fun e2 => e e2.symm)).trans ho⟩
  obtain ⟨q1, q2, q3, q4⟩ := Ma.nw_spec b (n := n) (p := s + 1) (by omega)
  have hsel : Ma.sel b (Ma.nw b n (s + 1)) = Ma.sel b s ++ [s] := by rw [q3, Ma.sel_yes hb]
  have hbel : Below w0.heap.size W W3 := ((Below.refl w0.heap.size W).grown hga (by omega) (fun r e => by have := hvb r e; omega)).grown s1 (by have := hga.size; omega) (fun r e => by cases e; omega)
  refine ⟨(k0.trans k1).from _, ⟨hbel, low _ (by omega) (by omega), low _ (by omega) (by omega)⟩, ⟨o', n1, ?_⟩, (low _ (by omega) (by omega)).trans h.box, ⟨h.pin.low, h.pin.bel.trans hbel, (low _ (by omega) (by omega)).trans h.pin.b1, (low _ (by omega) (by omega)).trans h.pin.b2⟩, hlo, ?_, q2, q4⟩
  · rw [hsel, List.length_append, List.flatMap_append]
    have e1 : [s].flatMap cell = cell s := by simp
    rw [e1]
    exact own1
  · have := hga.size; have := s1.size; omega
set_option maxRecDepth 100000 in
set_option maxHeartbeats 2000000 in
theorem Postings_any (A : Option Addr) (n c : Nat) (q : Nat → EAt) (x : Lab) (w : World) (hA : EntsIn w A n q) :
    Calls Tryz.prog 21 #[.slice A n c, .agg #[.string x.1, .string x.2]] w (Picks 3 1 (fun i => [.int .i64 (i : Int)]) (Ma.sel (hasE q x) n) w) := by
  have hn := hA.len
  obtain ⟨i0, hi0, hz0, hz1, hz2⟩ := info_parts info_int
  refine (callsIn_wide (n := 3)).1 ?_
  refine callsIn_of_wp_marks Tryz.func21 rfl trivial ?_ rfl
  simp only [Tryz.ntmps21, List.size_toArray, List.length_cons, List.length_nil, Nat.reduceAdd, Nat.reduceSub, Array.replicate_succ, Array.replicate_zero, List.push_toArray, List.append_toArray, List.nil_append, List.cons_append]
  refine wpIn_wide.2 ?_
  have h2 := f_two_heap w (.cells #[.string x.1, .string x.2] 37) (.cells #[.slice none 0 0] 43)
  have ha : (w.alloc (.cells #[.string x.1, .string x.2] 37)).heap.size = w.heap.size + 1 := by simp
  have hba : Below w.heap.size w (w.alloc (.cells #[.string x.1, .string x.2] 37)) := (Below.refl _ _).alloc (Nat.le_refl _) _
  have hxa := heap_keep (heap_alloc_new w (.cells #[.string x.1, .string x.2] 37)) ((Below.refl _ (w.alloc (.cells #[.string x.1, .string x.2] 37))).alloc (Nat.le_refl _) (.cells #[.slice none 0 0] 43))
  have y0 := cell_of_row _ _ 0 _ _ _ hxa; have y1 := cell_of_row _ _ 1 _ _ _ hxa
  simp only [List.getElem?_toArray, List.getElem?_cons_zero, List.getElem?_cons_succ] at y0 y1
  have hb2 : Below (w.alloc (.cells #[.string x.1, .string x.2] 37)).heap.size (w.alloc (.cells #[.string x.1, .string x.2] 37)) ((w.alloc (.cells #[.string x.1, .string x.2] 37)).alloc (.cells #[.slice none 0 0] 43)) := (Below.refl _ _).alloc (Nat.le_refl _) _
  go_wp2_with fail
  generalize (w.alloc (.cells #[.string x.1, .string x.2] 37)).alloc (.cells #[.slice none 0 0] 43) = w2 at *
  generalize w.alloc (.cells #[.string x.1, .string x.2] 37) = wa at *
  obtain ⟨h20, h21, z2, hk2, hg2⟩ := h2
  refine (postings_any A n c x _).mono ?_; rintro e w4 ⟨rfl, hw4⟩
  have h4 := f_two_heap w2 (.cells #[.slice A n c] 22) (.cells #[.string x.1, .string x.2] 37)
  rw [← hw4] at h4
  clear hw4 y0 y1 hxa
  obtain ⟨h42, h43, z4, hk4, hg4⟩ := h4
  rw [z2] at h42 h43 z4 hk4 ⊢
  have hCa := hA.later hba
  have hpin : XIn wa (w.heap.size + 2) (.slice A n c) #[.string x.1, .string x.2] 22 37 w4 := ⟨by omega, hb2.grown hg4 (by omega) (fun r e => by cases e), h42, h43⟩
  have hhands := postings_hands wa A n c q hCa x (w.heap.size + 2) w4 hpin
  generalize hbd : hasE q x = b at *
  have HBD := Lib.hid hbd; clear hbd
  obtain ⟨q1, q2, q3, q4⟩ := Ma.nw_spec b (Nat.zero_le n)
  have start : PoAt w wa #[.string x.1, .string x.2] 37 43 3 1 (.slice A n c) #[.string x.1, .string x.2] 22 37 (fun i => [.int .i64 (i : Int)]) b n (Ma.nw b n 0) w4 :=
    ⟨⟨.slice none 0 0, (hk4 _ (by omega)).trans h21, by rw [q3]; exact World.ownsRow_nil _ _ _ _⟩, (hk4 _ (by omega)).trans h20, hpin, by omega, by omega, q2, q4⟩
  have ST := Lib.hid start; have HBA := Lib.hid hba
  clear start hk2 hk4 hg2 hg4 h20 h21 h42 h43 q1 q2 q3 q4 hba hb2 hA
  go_wp2_with fail
  refine (wpIn_wide (n := 3)).1 ?_
  refine' rangeN (gf := 88) (lb := #[.pointer (some ⟨w.heap.size + 2, 0, none⟩), .pointer (some ⟨w.heap.size + 2 + 1, 0, none⟩)]) rfl (enters_of Tryz.func88 (by kernel_rfl) rfl)
    hhands (fun h k => h.trans k) ?ka ?kb (fun _ => rfl) (PoAt w wa #[.string x.1, .string x.2] 37 43 3 1 (.slice A n c) #[.string x.1, .string x.2] 22 37 (fun i => [.int .i64 (i : Int)]) b n) ?hI ST.out _ ?assign ?body ?done
  case ka =>
    intro o1 o2 _ _
    have t := f_two_heap w4 o1 o2
    exact ⟨(Below.refl _ _).grown t.2.2.2.2 (by omega) (fun r e => by cases e), t.2.2.2.1 _ (by omega), t.2.2.2.1 _ (by omega)⟩
  case kb =>
    intro W l o o2 hl ho _
    have hlt := (Array.getElem?_eq_some_iff.1 ho).1
    exact ⟨(Below.refl _ _).grown (grownBy_putObj' W l o2) (by omega) (fun r e => by cases e; omega), f_putObj_other _ _ _ _ (by omega), f_putObj_other _ _ _ _ (by omega)⟩
  case hI =>
    intro s W W2 row h hg hr
    exact h.kept hg (fun r e => ⟨by have := (hr r e).1; omega, (hr r e).2⟩)
  case assign =>
    intro l s W K hK
    gi_wp2
    exact hK
  case body =>
    intro l s W hi hmr
    have hlt : s < n := of_decide_eq_true hmr
    have hbs : b s = true := hi.want hlt
    obtain ⟨o, h1, h2⟩ := hi.ex
    have hend := fun o' W1 => po_end (o' := o') (W1 := W1) (ob := .cells #[.int .i64 (s : Int)] 3) hi hlt hbs h1 h2
    have c1 : W.cell? ⟨w.heap.size + 1, 0, none⟩ = some o := cell_of_row _ _ _ _ _ _ h1
    have hsz := hi.size
    have hsl := Ma.sel_length b s
    have hvb : ∀ k, o.ownBlock = some k → w.heap.size + 4 ≤ k := fun k hk => (h2.lt k hk).1
    have hfacts : ∀ (w1 : World), (W.alloc (.cells #[.int .i64 (s : Int)] 3)).grownBy w1 o.ownBlock → w1.cell? ⟨w.heap.size + 1, 0, none⟩ = some o ∧ w1.frozen? ⟨w.heap.size + 1, 0, none⟩ = false := fun w1 hgrow => by
      have hlow1 : w1.heap[w.heap.size + 1]? = W.heap[w.heap.size + 1]? := (hgrow.block _ (by simp; omega) (fun e => by have := hvb _ e.symm; omega)).trans (Below.heap_alloc W _ _ (by omega))
      exact ⟨cell_of_row _ _ _ _ _ _ (hlow1.trans h1), frozen_of_row _ _ _ _ _ (hlow1.trans h1)⟩
    have c1a : (W.alloc (.cells #[.int .i64 (s : Int)] 3)).cell? ⟨w.heap.size + 1, 0, none⟩ = some o := (World.cell?_alloc_lt W _ _ (by show w.heap.size + 1 < _; omega)).trans c1
    have hb1 : (Ma.sel b s).length + 1 ≤ maxLen := by unfold maxLen; omega
    have hb2 : ((Ma.sel b s).length + 1) * 8 ≤ 140737488355328 := by omega
    have hb3 : w.heap.size + 4 ≤ (W.alloc (.cells #[.int .i64 (s : Int)] 3)).heap.size := by simp; omega
    have HEND := Lib.hid hend; have HF := Lib.hid hfacts; have HB1 := Lib.hid hb1; have HB2 := Lib.hid hb2; have HB3 := Lib.hid hb3; have H2 := Lib.hid h2
    clear hi hmr ST h1 h2 hend hfacts hb1 hb2 hb3 hvb hsl hpin hCa hbs hhands
    gi_wp2_with (gi_at_builtin; (refine wpListIn_append_own _ rfl _ _ 43 rfl (w.heap.size + 4) 3 i0 (.int .i64 0) 1 8 Tryz.underlying43 hi0 hz0 hz1 hz2 rfl (by decide) _ _ _ rfl (H2.out.alloc _) ⟨W.heap.size, 0, none⟩ 1 1 [.int .i64 (s : Int)] rfl rfl (cells_new _ _ _) (by simp [Value.oneCell']) HB1.out HB2.out HB3.out ?_); intro o' w1 hown' hgrow _; obtain ⟨g', cap', rfl⟩ := ownsRow_succ hown'; obtain ⟨e1, f1⟩ := HF.out w1 hgrow; have HFIN := Lib.hid (HEND.out _ w1 hown' hgrow); clear hown' hgrow)
    obtain ⟨z1, z2, z3⟩ := HFIN.out
    rw [z4]
    exact ⟨z1, z2, z3⟩
  case done =>
    intro D s W hD hmr hi hK
    have hge : n ≤ s := Nat.le_of_not_lt (of_decide_eq_false hmr)
    obtain rfl : s = n := by have := hi.le; omega
    obtain ⟨o, h1, h2⟩ := hi.ex
    have c1 : W.cell? ⟨w.heap.size + 1, 0, none⟩ = some o := cell_of_row _ _ _ _ _ _ h1
    have hsz := hi.size
    have HI := Lib.hid hi; have HK := Lib.hid hK; have H2 := Lib.hid h2
    clear hi hK h2 h1 hmr ST hge hpin hCa hhands
    go_wp2_with fail
    refine ⟨by simp, .inl ⟨_, _, rfl, run_takeDeferred HK.out, ?_⟩⟩
    have hk := HI.out.kept (grownBy_putObj' W D (.deferred none)) (fun r e => by cases e; exact ⟨by omega, _, HK.out, rfl⟩)
    have hown := H2.out.kept (grownBy_putObj' W D (.deferred none)) (by cases hv : o.ownBlock with
      | none => exact .inl rfl
      | some k => exact .inr (fun e => by cases e; have := own_cells H2.out hv HK.out; cases this))
    have hbl := HBA.out.trans (Below.mono (B' := w.heap.size) hk.pin.bel (by omega))
    have hof := own_from (b2 := w.heap.size) hown (Nat.le_add_right _ _)
    exact ⟨o, by simp [results, Tryz.results21, go_sem], o, rfl, by rw [HBD.out]; exact hof, hbl⟩
end Go.Proofs.YtliobahnekohmaaGreat
