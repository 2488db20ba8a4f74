import Derived.Test.YtfibapfehgglhaaGreatDoorMeC
import Derived.Test.YtfibapfehgglhaaGreatDoorPjA
import Derived.Deep.DeepCutAuto
/-
  What read$1 of package meta comes to, and how read begins.
-/
namespace Go.Proofs.YtfibapfehgglhaaGreatDoor
open Go.RowKit
namespace Me
theorem adv_small (gen : Int) (h : gen ≠ 1) (s : ByteArray) (bad : Bool) : adv gen (s, bad) =
    (Num.curV bad (Num.decp 0 0 s.data.toList).2.2 (Num.decp 0 0 s.data.toList).1 0, Num.curV bad (Num.decp 0 0 s.data.toList).2.2 (s.extract (Num.decp 0 0 s.data.toList).2.1 s.size) s, bad || !(Num.decp 0 0 s.data.toList).2.2) := by
  unfold adv step Num.curV
  rw [if_neg h]
  cases bad
  · simp only [Bool.false_eq_true, if_false, Bool.false_or]
    cases hd : (Num.decp 0 0 s.data.toList).2.2 <;> simp
  · simp
theorem adv_wide (s : ByteArray) (bad : Bool) : adv 1 (s, bad) =
    (Num.curV bad (decide (8 ≤ s.size)) (if decide (8 ≤ s.size) = true then Num.num (s.data.toList.take 8) else 0) 0, Num.curV bad (decide (8 ≤ s.size)) (s.extract (if decide (8 ≤ s.size) = true then 8 else 0) s.size) s, bad || !decide (8 ≤ s.size)) := by
  unfold adv step Num.curV
  rw [if_pos rfl]
  cases bad
  · simp only [Bool.false_eq_true, if_false, Bool.false_or]
    by_cases h : 8 ≤ s.size <;> simp [h]
  · simp
end Me
theorem curSmall_adv (b : Nat) (gen : Int) (h : gen ≠ 1) (s : ByteArray) (hs : s.size ≤ maxLen) (bad : Bool) (w : World) (hc : CurAt b s bad w) :
    Calls Tryz.prog 112 #[.pointer (some ⟨b, 0, none⟩)] w fun e w' => e = .returned (.int .u64 ((Me.adv gen (s, bad)).1 : Nat)) ∧ CurAt b (Me.adv gen (s, bad)).2.1 (Me.adv gen (s, bad)).2.2 w' ∧ w.grownBy w' (some b) := by
  rw [Me.adv_small gen h]
  exact curSmall b s hs bad w hc
theorem curWide_adv (b : Nat) (s : ByteArray) (hs : s.size ≤ maxLen) (bad : Bool) (w : World) (hc : CurAt b s bad w) :
    Calls Tryz.prog 115 #[.pointer (some ⟨b, 0, none⟩)] w fun e w' => e = .returned (.int .u64 ((Me.adv 1 (s, bad)).1 : Nat)) ∧ CurAt b (Me.adv 1 (s, bad)).2.1 (Me.adv 1 (s, bad)).2.2 w' ∧ w.grownBy w' (some b) := by
  rw [Me.adv_wide]
  exact curWide b s hs bad w hc

set_option maxRecDepth 100000 in
set_option maxHeartbeats 1000000 in
theorem Next_any (bg bc : Nat) (gen : Int) (c : ByteArray × Bool) (hs : c.1.size ≤ maxLen) (w : World) (hg : w.cell? ⟨bg, 0, none⟩ = some (.int .i64 gen)) (hc : CurAt bc c.1 c.2 w) :
    Calls Tryz.prog 114 #[.pointer (some ⟨bg, 0, none⟩), .pointer (some ⟨bc, 0, none⟩)] w fun e w' => e = .returned (.int .i64 (wrap64 ((Me.adv gen c).1 : Nat))) ∧ CurAt bc (Me.adv gen c).2.1 (Me.adv gen c).2.2 w' ∧ w.grownBy w' (some bc) := by
  obtain ⟨s, bad⟩ := c
  by_cases h1 : gen = 1
  · subst h1
    have HC := Lib.hid (curWide_adv bc s hs bad w hc)
    generalize Me.adv 1 (s, bad) = D at *
    clear hc
    go_enter Tryz.func114, Tryz.ntmps114
    go_wp2_with fail
    refine HC.out.mono ?_; rintro e w2 ⟨rfl, h2, h3⟩
    have H2 := Lib.hid h2; have H3 := Lib.hid h3; clear h2 h3 hg
    go_wp2_with fail
    go_ret
    exact ⟨rfl, H2.out, H3.out⟩
  · have HC := Lib.hid (curSmall_adv bc gen h1 s hs bad w hc)
    have g1 : (gen == 1) = false := by simpa using h1
    generalize Me.adv gen (s, bad) = D at *
    clear hc h1
    go_enter Tryz.func114, Tryz.ntmps114
    go_wp2_with fail
    refine HC.out.mono ?_; rintro e w2 ⟨rfl, h2, h3⟩
    have H2 := Lib.hid h2; have H3 := Lib.hid h3; clear h2 h3 hg
    go_wp2_with fail
    go_ret
    exact ⟨rfl, H2.out, H3.out⟩

theorem w64_bd (a : Int) : -9223372036854775808 ≤ wrap64 a ∧ wrap64 a ≤ 9223372036854775807 := by unfold wrap64; omega
theorem u64_w64 (n : Nat) (h : n < 18446744073709551616) : IntKind.u64.wrap (wrap64 (n : Int)) = (n : Int) := by rw [IntKind.wrap_u64]; unfold wrap64; omega
theorem meta_size : (Tryz.prog.info? 54).map (·.size) = some 4 := by kernel_rfl
theorem results_cell_tmp {P : Program} {fn : Func} {p t : Tmp} {ty : TypeId} (h : fn.results = #[.cell p ty, .tmp t]) (tmps : Array Value) (w : World) (g : Nat) (u : TypeId) (cs : Array Value) (fr : Nat × Nat) (d : TypeDesc)
    (hp : tmps.getD p undef = .pointer (some ⟨g, 0, none⟩)) (hg : w.heap[g]? = some (.cells cs u fr))
    (hu : P.underlying ty = some d) (hd : (match d with | .struct _ | .array _ _ => true | _ => false) = true) (hi : (P.info? ty).map (·.size) = some cs.size) :
    (results fn tmps).run P w = .ok (.tuple #[.agg cs, tmps.getD t undef]) w := by
  have hp' : tmps[p]?.getD undef = .pointer (some ⟨g, 0, none⟩) := by simpa using hp
  simp [results, h, hp', asAddr, run_loadVar_row w g u ty cs fr d hg hu hd hi]
/-- what read holds on to: its generation, the result, the cursor -/
structure RHeld (w : World) (bg br bc : Nat) (gen : Int) (c : ByteArray × Bool) (W : World) : Prop where
  g : RowIs W bg (.cells #[.int .i64 gen] 3)
  r : RowIs W br (.cells #[.int .i64 0, .int .i64 0, .int .i64 0, .slice none 0 0] 54)
  cur : CurAt bc c.1 c.2 W
  bel : Below w.heap.size w W
theorem RHeld.later {w : World} {bg br bc : Nat} {gen : Int} {c : ByteArray × Bool} {W W2 : World} (h : RHeld w bg br bc gen c W) (hb : Below W.heap.size W W2) : RHeld w bg br bc gen c W2 := ⟨h.g.keep hb, h.r.keep hb, heap_keep h.cur hb, below_step h.bel hb⟩
theorem RHeld.drew {w : World} {bg br bc : Nat} {gen : Int} {c : ByteArray × Bool} {W : World} (h : RHeld w bg br bc gen c W) : RHeld w bg br bc gen c W.drew := ⟨h.g, h.r, h.cur, h.bel.drew⟩
theorem RHeld.cell {w : World} {bg br bc : Nat} {gen : Int} {c : ByteArray × Bool} {W : World} (h : RHeld w bg br bc gen c W) : W.cell? ⟨bg, 0, none⟩ = some (.int .i64 gen) := cell_of_row _ _ _ _ _ _ h.g
theorem RHeld.lt {w : World} {bg br bc : Nat} {gen : Int} {c : ByteArray × Bool} {W : World} (h : RHeld w bg br bc gen c W) : bg < W.heap.size ∧ br < W.heap.size ∧ bc < W.heap.size := ⟨(Array.getElem?_eq_some_iff.1 h.g).1, (Array.getElem?_eq_some_iff.1 h.r).1, (Array.getElem?_eq_some_iff.1 h.cur).1⟩
theorem RHeld.next {w : World} {bg br bc : Nat} {gen : Int} {c c2 : ByteArray × Bool} {W W2 : World} (h : RHeld w bg br bc gen c W) (hne : bg ≠ bc) (hne2 : br ≠ bc) (hlow : w.heap.size ≤ bc) (hc : CurAt bc c2.1 c2.2 W2) (hg : W.grownBy W2 (some bc)) : RHeld w bg br bc gen c2 W2 :=
  ⟨(hg.block bg h.lt.1 (fun e => hne (by cases e; rfl))).trans h.g, (hg.block br h.lt.2.1 (fun e => hne2 (by cases e; rfl))).trans h.r, hc, h.bel.grown hg h.bel.size (fun r e => by cases e; exact hlow)⟩
theorem RHeld.grown {w : World} {bg br bc : Nat} {gen : Int} {c : ByteArray × Bool} {W W2 : World} {row : Option Nat} (h : RHeld w bg br bc gen c W) (hg : W.grownBy W2 row) (h1 : some bg ≠ row) (h2 : some br ≠ row) (h3 : some bc ≠ row) (h4 : ∀ r, row = some r → w.heap.size ≤ r) : RHeld w bg br bc gen c W2 :=
  ⟨(hg.block bg h.lt.1 h1).trans h.g, (hg.block br h.lt.2.1 h2).trans h.r, (hg.block bc h.lt.2.2 h3).trans h.cur, h.bel.grown hg h.bel.size h4⟩
theorem grown_four (W : World) (b : Nat) (a0 a1 a2 a3 : Value) : W.grownBy ((((W.setCell ⟨b, 0, none⟩ a0).setCell ⟨b, 1, none⟩ a1).setCell ⟨b, 2, none⟩ a2).setCell ⟨b, 3, none⟩ a3) (some b) :=
  grown_trans (grown_trans (grown_trans (grown_setCell W b 0 a0) (grown_setCell _ b 1 a1)) (grown_setCell _ b 2 a2)) (grown_setCell _ b 3 a3)
theorem own_same2 {W W2 : World} {base e n : Nat} {v : Value} {xs : List Value} (h : W.ownsRow base e 1 v n xs) (hk : ∀ g, v.ownBlock = some g → W2.heap[g]? = W.heap[g]?) : W2.ownsRow base e 1 v n xs := by
  refine ⟨h.1, ?_⟩
  rcases h.2 with h2 | ⟨g, c, cur, hv, hb, hg, h3⟩
  · exact .inl h2
  · refine .inr ⟨g, c, cur, hv, hb, ?_, h3⟩
    rw [hk g (by rw [hv]; rfl), hg]
/-- a meta is laid in its block, cell by cell -/
theorem meta_four {W : World} {b : Nat} {z0 z1 z2 z3 : Value} (h : RowIs W b (.cells #[z0, z1, z2, z3] 54)) (a0 a1 a2 a3 : Value) :
    RowIs ((((W.setCell ⟨b, 0, none⟩ a0).setCell ⟨b, 1, none⟩ a1).setCell ⟨b, 2, none⟩ a2).setCell ⟨b, 3, none⟩ a3) b (.cells #[a0, a1, a2, a3] 54) :=
  heap_setCell_same _ b 3 _ _ a3 (heap_setCell_same _ b 2 _ _ a2 (heap_setCell_same _ b 1 _ _ a1 (heap_setCell_same W b 0 _ _ a0 h)))
theorem meta_cells {W : World} {b : Nat} {z0 z1 z2 z3 : Value} (h : RowIs W b (.cells #[z0, z1, z2, z3] 54)) :
    (W.cell? ⟨b, 0, none⟩ = some z0 ∧ W.cell? ⟨b, 1, none⟩ = some z1 ∧ W.cell? ⟨b, 2, none⟩ = some z2 ∧ W.cell? ⟨b, 3, none⟩ = some z3) ∧ (W.frozen? ⟨b, 0, none⟩ = false ∧ W.frozen? ⟨b, 1, none⟩ = false ∧ W.frozen? ⟨b, 2, none⟩ = false ∧ W.frozen? ⟨b, 3, none⟩ = false) :=
  ⟨⟨cell_of_row _ _ _ _ _ _ h, cell_of_row _ _ _ _ _ _ h, cell_of_row _ _ _ _ _ _ h, cell_of_row _ _ _ _ _ _ h⟩, ⟨frozen_of_row _ _ _ _ _ h, frozen_of_row _ _ _ _ _ h, frozen_of_row _ _ _ _ _ h, frozen_of_row _ _ _ _ _ h⟩⟩
end Go.Proofs.YtfibapfehgglhaaGreatDoor
