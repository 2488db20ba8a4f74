/-
  What the functions of package match come to: Select.
-/
import Derived.Test.YtliobahnekohmaaGreatMaE
import Derived.Test.YtliobahnekohmaaGreatMaR
namespace Go.Proofs.YtliobahnekohmaaGreat
open Go.RowKit Go.Shelf
attribute [local go_sem] Oper.semAt_some
def lx (A : Nat → Option Addr) (n c : Nat → Nat) (i _j : Nat) : Value := .slice (A i) (n i) (c i)
theorem SelC_any (g : Nat) (B : Option Addr) (k cm : Nat) (hk : k ≤ 1000000) (m : Nat → Mat) (A : Option Addr) (n c : Nat) (hn : n ≤ 1000000) (f : Nat → Lab) (w : World) (hB : Row 3 (mx m) w B k) (hA : LabRow w A n f) (hg : w.cell? ⟨g, 0, none⟩ = some (.slice B k cm)) :
 Calls Tryz.prog 59 #[.slice A n c, .pointer (some ⟨g, 0, none⟩)] w fun e w' => e = .returned (.bool (Ma.all m k f n)) ∧ Below w.heap.size w w' := by
 have HC := Lib.hid (All_any B k cm hk m A n c hn f w hB hA)
 clear hB hA
 go_enter Tryz.func59, Tryz.ntmps59
 go_wp2_with fail
 refine HC.out.mono ?_; rintro e w2 ⟨rfl, hb2⟩
 have HB2 := Lib.hid hb2; clear hb2
 go_wp2_with fail
 go_ret
 exact ⟨rfl, HB2.out⟩
theorem info_int : (Tryz.prog.info? 3).map (fun i => (i.zero, i.size, i.bytes)) = some (some (.int .i64 0), 1, 8) := by kernel_rfl
set_option maxRecDepth 100000 in
set_option maxHeartbeats 2000000 in
theorem Select_any (B : Option Addr) (k cm : Nat) (hk : k ≤ 1000000) (m : Nat → Mat) (C : Option Addr) (n c : Nat) (hn : n ≤ 1000000) (A : Nat → Option Addr) (nn cc : Nat → Nat) (f : Nat → Nat → Lab) (hnn : ∀ i, i < n → nn i ≤ 1000000)
 (w : World) (hB : Row 3 (mx m) w B k) (hC : Row 1 (lx A nn cc) w C n) (hA : ∀ i, i < n → LabRow w (A i) (nn i) (f i)) :
 Calls Tryz.prog 28 #[.slice B k cm, .slice C n c] w (Picks 3 1 (fun i => [.int .i64 (i : Int)]) (Ma.sel (fun i => Ma.all m k (f i) (nn i)) n) w) := by
 obtain ⟨i0, hi0, hz0, hz1, hz2⟩ := info_parts info_int
 refine (callsIn_wide (n := 3)).1 ?_
 refine callsIn_of_wp_marks Tryz.func28 rfl trivial ?_ rfl
 simp only [Tryz.ntmps28, List.size_toArray, List.length_cons, List.length_nil, Nat.reduceAdd, Nat.reduceSub, Array.replicate_succ, Array.replicate_zero, List.push_toArray, List.append_toArray, List.nil_append, List.cons_append]
 refine wpIn_wide.2 ?_
 go_wp2_with fail
 have h2 := f_two_heap w (.cells #[.slice B k cm] 38) (.cells #[.slice none 0 0] 43)
 have ha : (w.alloc (.cells #[.slice B k cm] 38)).heap.size = w.heap.size + 1 := by simp
 have hba : Below w.heap.size w (w.alloc (.cells #[.slice B k cm] 38)) := (Below.refl _ _).alloc (Nat.le_refl _) _
 have hxa : (w.alloc (.cells #[.slice B k cm] 38)).cell? ⟨w.heap.size, 0, none⟩ = some (.slice B k cm) := cell_of_row _ _ 0 _ _ _ (heap_alloc_new _ _)
 have hb2 : Below (w.alloc (.cells #[.slice B k cm] 38)).heap.size (w.alloc (.cells #[.slice B k cm] 38)) ((w.alloc (.cells #[.slice B k cm] 38)).alloc (.cells #[.slice none 0 0] 43)) := (Below.refl _ _).alloc (Nat.le_refl _) _
 generalize (w.alloc (.cells #[.slice B k cm] 38)).alloc (.cells #[.slice none 0 0] 43) = w2 at *
 generalize w.alloc (.cells #[.slice B k cm] 38) = wa at *
 obtain ⟨h20, h21, z2, hk2, hg2⟩ := h2
 refine (placesR_any C n c 59 #[.pointer (some ⟨w.heap.size, 0, none⟩)] _).mono ?_; rintro e w4 ⟨rfl, hw4⟩
 have h4 := f_two_heap w2 (.cells #[.slice C n c] 56) (.cells #[.func (.func 59) #[] #[.pointer (some ⟨w.heap.size, 0, none⟩)]] 64)
 rw [← hw4] at h4
 clear hw4
 obtain ⟨h42, h43, z4, hk4, hg4⟩ := h4
 rw [z2] at h42 h43 z4 hk4 ⊢
 have hw : ∀ W, Below wa.heap.size wa W → ∀ i, i < n → Calls Tryz.prog 59 (#[lx A nn cc i 0] ++ #[.pointer (some ⟨w.heap.size, 0, none⟩)]) W (fun e W2 => e = .returned (.bool ((fun i => Ma.all m k (f i) (nn i)) i)) ∧ Below W.heap.size W W2) := fun W hW i hi => by
  have hbw : Below w.heap.size w W := hba.trans (hW.mono (by omega))
  exact SelC_any w.heap.size B k cm hk m (A i) (nn i) (cc i) (hnn i hi) (f i) W (hB.later hbw) ((hA i hi).later hbw) ((hW.cell (by show w.heap.size < _; omega)).trans hxa)
 have hCa := hC.later hba
 generalize hbd : (fun i => Ma.all m k (f i) (nn i)) = b at *
 have HBD := Lib.hid hbd; clear hbd
 have hpin : PIn wa (w.heap.size + 2) (.slice C n c) (.func (.func 59) #[] #[.pointer (some ⟨w.heap.size, 0, none⟩)]) 56 64 w4 := ⟨by omega, hb2.grown hg4 (by omega) (fun r e => by cases e), h42, h43⟩
 obtain ⟨q1, q2, q3, q4⟩ := Ma.nw_spec b (Nat.zero_le n)
 have start : PickAt w wa (.slice B k cm) 38 43 3 1 (.slice C n c) (.func (.func 59) #[] #[.pointer (some ⟨w.heap.size, 0, none⟩)]) 56 64 (fun i => [.int .i64 (i : Int)]) b n (Ma.nw b n 0) w4 :=
  ⟨⟨.slice none 0 0, (hk4 _ (by omega)).trans h21, by rw [q3]; exact World.ownsRow_nil _ _ _ _⟩, (hk4 _ (by omega)).trans h20, hpin, by omega, by omega, q2, q4⟩
 have ST := Lib.hid start; have HBA := Lib.hid hba
 clear start hk2 hk4 hg2 hg4 h20 h21 h42 h43 q1 q2 q3 q4 hba hxa hb2 hB hC hA
 go_wp2_with fail
 refine (wpIn_wide (n := 3)).1 ?_
 refine' rangeN (gf := 98) (lb := #[.pointer (some ⟨w.heap.size + 2, 0, none⟩), .pointer (some ⟨w.heap.size + 2 + 1, 0, none⟩)]) rfl (enters_of Tryz.func98 (by kernel_rfl) rfl)
  (placesR_hands wa C n c (by unfold maxLen; omega) (lx A nn cc) hCa 59 #[.pointer (some ⟨w.heap.size, 0, none⟩)] b hw (fun args w => enters_of Tryz.func59 (by kernel_rfl) rfl args w) (w.heap.size + 2) w4 hpin) (fun h k => h.trans k) ?ka ?kb (fun _ => rfl) (PickAt w wa (.slice B k cm) 38 43 3 1 (.slice C n c) (.func (.func 59) #[] #[.pointer (some ⟨w.heap.size, 0, none⟩)]) 56 64 (fun i => [.int .i64 (i : Int)]) b n) ?hI ST.out _ ?assign ?body ?done
 case ka =>
  intro o1 o2 _ _
  have t := f_two_heap w4 o1 o2
  exact ⟨(Below.refl _ _).grown t.2.2.2.2 (by omega) (fun r e => by cases e), t.2.2.2.1 _ (by omega), t.2.2.2.1 _ (by omega)⟩
 case kb =>
  intro W l o o2 hl ho _
  have hlt := (Array.getElem?_eq_some_iff.1 ho).1
  exact ⟨(Below.refl _ _).grown (grownBy_putObj' W l o2) (by omega) (fun r e => by cases e; omega), f_putObj_other _ _ _ _ (by omega), f_putObj_other _ _ _ _ (by omega)⟩
 case hI =>
  intro s W W2 row h hg hr
  exact h.kept hg (fun r e => ⟨by have := (hr r e).1; omega, (hr r e).2⟩)
 case assign =>
  intro l s W K hK
  gi_wp2
  exact hK
 case body =>
  intro l s W hi hmr
  have hlt : s < n := of_decide_eq_true hmr
  have hbs : b s = true := hi.want hlt
  obtain ⟨o, h1, h2⟩ := hi.ex
  have hend := fun o' W1 => pick_end (o' := o') (W1 := W1) (ob := .cells #[.int .i64 (s : Int)] 3) hi hlt hbs h1 h2
  have c1 : W.cell? ⟨w.heap.size + 1, 0, none⟩ = some o := cell_of_row _ _ _ _ _ _ h1
  have hsz := hi.size
  have hsl := Ma.sel_length b s
  have hvb : ∀ k, o.ownBlock = some k → w.heap.size + 4 ≤ k := fun k hk => (h2.lt k hk).1
  have hfacts : ∀ (w1 : World), (W.alloc (.cells #[.int .i64 (s : Int)] 3)).grownBy w1 o.ownBlock → w1.cell? ⟨w.heap.size + 1, 0, none⟩ = some o ∧ w1.frozen? ⟨w.heap.size + 1, 0, none⟩ = false := fun w1 hgrow => by
   have hlow1 : w1.heap[w.heap.size + 1]? = W.heap[w.heap.size + 1]? := (hgrow.block _ (by simp; omega) (fun e => by have := hvb _ e.symm; omega)).trans (Below.heap_alloc W _ _ (by omega))
   exact ⟨cell_of_row _ _ _ _ _ _ (hlow1.trans h1), frozen_of_row _ _ _ _ _ (hlow1.trans h1)⟩
  have c1a : (W.alloc (.cells #[.int .i64 (s : Int)] 3)).cell? ⟨w.heap.size + 1, 0, none⟩ = some o := (World.cell?_alloc_lt W _ _ (by show w.heap.size + 1 < _; omega)).trans c1
  have hb1 : (Ma.sel b s).length + 1 ≤ maxLen := by unfold maxLen; omega
  have hb2 : ((Ma.sel b s).length + 1) * 8 ≤ 140737488355328 := by omega
  have hb3 : w.heap.size + 4 ≤ (W.alloc (.cells #[.int .i64 (s : Int)] 3)).heap.size := by simp; omega
  have HEND := Lib.hid hend; have HF := Lib.hid hfacts; have HB1 := Lib.hid hb1; have HB2 := Lib.hid hb2; have HB3 := Lib.hid hb3; have H2 := Lib.hid h2
  clear hi hmr ST h1 h2 hend hfacts hb1 hb2 hb3 hvb hsl hpin hw hCa hbs
  gi_wp2_with (gi_at_builtin; (refine wpListIn_append_own _ rfl _ _ 43 rfl (w.heap.size + 4) 3 i0 (.int .i64 0) 1 8 Tryz.underlying43 hi0 hz0 hz1 hz2 rfl (by decide) _ _ _ rfl (H2.out.alloc _) ⟨W.heap.size, 0, none⟩ 1 1 [.int .i64 (s : Int)] rfl rfl (cells_new _ _ _) (by simp [Value.oneCell']) HB1.out HB2.out HB3.out ?_); intro o' w1 hown' hgrow _; obtain ⟨g', cap', rfl⟩ := ownsRow_succ hown'; obtain ⟨e1, f1⟩ := HF.out w1 hgrow; have HFIN := Lib.hid (HEND.out _ w1 hown' hgrow); clear hown' hgrow)
  obtain ⟨z1, z2, z3⟩ := HFIN.out
  rw [z4]
  exact ⟨z1, z2, z3⟩
 case done =>
  intro D s W hD hmr hi hK
  have hge : n ≤ s := Nat.le_of_not_lt (of_decide_eq_false hmr)
  obtain rfl : s = n := by have := hi.le; omega
  obtain ⟨o, h1, h2⟩ := hi.ex
  have c1 : W.cell? ⟨w.heap.size + 1, 0, none⟩ = some o := cell_of_row _ _ _ _ _ _ h1
  have hsz := hi.size
  have HI := Lib.hid hi; have HK := Lib.hid hK; have H2 := Lib.hid h2
  clear hi hK h2 h1 hmr ST hge hpin hw hCa
  go_wp2_with fail
  refine ⟨by simp, .inl ⟨_, _, rfl, run_takeDeferred HK.out, ?_⟩⟩
  have hk := HI.out.kept (grownBy_putObj' W D (.deferred none)) (fun r e => by cases e; exact ⟨by omega, _, HK.out, rfl⟩)
  have hown := H2.out.kept (grownBy_putObj' W D (.deferred none)) (by cases hv : o.ownBlock with
   | none => exact .inl rfl
   | some k => exact .inr (fun e => by cases e; have := own_cells H2.out hv HK.out; cases this))
  have hbl := HBA.out.trans (Below.mono (B' := w.heap.size) hk.pin.bel (by omega))
  have hof := own_from (b2 := w.heap.size) hown (Nat.le_add_right _ _)
  exact ⟨o, by simp [results, Tryz.results28, go_sem], o, rfl, by rw [HBD.out]; exact hof, hbl⟩
end Go.Proofs.YtliobahnekohmaaGreat
