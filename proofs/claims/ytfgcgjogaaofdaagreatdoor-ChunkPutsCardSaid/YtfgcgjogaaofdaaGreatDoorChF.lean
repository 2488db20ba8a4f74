import Derived.Test.YtfgcgjogaaofdaaGreatDoorChR
import Derived.Test.YtfgcgjogaaofdaaGreatDoorRoundAny
import Derived.Test.YtfgcgjogaaofdaaGreatDoorNumO
import Derived.Test.YtfgcgjogaaofdaaGreatDoorStructs
/-
  What the functions that read one sample come to: getWide$1, getSteps$1, getBits$1 of package chunk.
-/
namespace Go.Proofs.YtfgcgjogaaofdaaGreatDoor
open Go.RowKit
theorem results_cell {P : Program} {fn : Func} {p : Tmp} {ty : TypeId} (h : fn.results = #[.cell p ty]) (tmps : Array Value) (w : World) (g : Nat) (u : TypeId) (cs : Array Value) (fr : Nat × Nat) (d : TypeDesc)
    (hp : tmps.getD p undef = .pointer (some ⟨g, 0, none⟩)) (hg : w.heap[g]? = some (.cells cs u fr))
    (hu : P.underlying ty = some d) (hd : (match d with | .struct _ | .array _ _ => true | _ => false) = true) (hi : (P.info? ty).map (·.size) = some cs.size) :
    (results fn tmps).run P w = .ok (.agg cs) w := by
  have hp' : tmps[p]?.getD undef = .pointer (some ⟨g, 0, none⟩) := by simpa using hp
  simp [results, h, hp', asAddr, run_loadVar_row w g u ty cs fr d hg hu hd hi]
theorem sam_results {fn : Func} {p : Tmp} (h : fn.results = #[.cell p 30]) (tmps : Array Value) (w : World) (g : Nat) (a b : Value) (hp : tmps.getD p undef = .pointer (some ⟨g, 0, none⟩)) (hg : w.heap[g]? = some (.cells #[a, b] 30 (0, 0))) :
    (results fn tmps).run Tryz.prog w = .ok (.agg #[a, b]) w :=
  results_cell h tmps w g _ #[a, b] _ (.struct (Tryz.prog.fieldsOf 30)) hp hg (by kernel_rfl) rfl (by kernel_rfl)
theorem curSmall_ch (b : Nat) (c : ByteArray × Bool) (hs : c.1.size ≤ maxLen) (w : World) (hc : CurAt b c.1 c.2 w) :
    Calls Tryz.prog 54 #[.pointer (some ⟨b, 0, none⟩)] w fun e w' => e = .returned (.int .u64 ((Ch.adv false c).1 : Nat)) ∧ CurAt b (Ch.adv false c).2.1 (Ch.adv false c).2.2 w' ∧ w.grownBy w' (some b) := by
  obtain ⟨s, bad⟩ := c
  rw [Ch.adv_small]
  exact curSmall b s hs bad w hc
theorem curWide_ch (b : Nat) (c : ByteArray × Bool) (hs : c.1.size ≤ maxLen) (w : World) (hc : CurAt b c.1 c.2 w) :
    Calls Tryz.prog 49 #[.pointer (some ⟨b, 0, none⟩)] w fun e w' => e = .returned (.int .u64 ((Ch.adv true c).1 : Nat)) ∧ CurAt b (Ch.adv true c).2.1 (Ch.adv true c).2.2 w' ∧ w.grownBy w' (some b) := by
  obtain ⟨s, bad⟩ := c
  rw [Ch.adv_wide]
  exact curWide b s hs bad w hc
theorem curText_ch (b : Nat) (c : ByteArray × Bool) (hs : c.1.size ≤ maxLen) (w : World) (hc : CurAt b c.1 c.2 w) :
    Calls Tryz.prog 61 #[.pointer (some ⟨b, 0, none⟩), .int .i64 (c.1.size : Nat)] w fun e w' => e = .returned (.string (Ch.advT c).1) ∧ CurAt b (Ch.advT c).2.1 (Ch.advT c).2.2 w' ∧ w.grownBy w' (some b) :=
  curText b c.1 hs c.2 (c.1.size : Nat) (Lib.hid (by unfold maxLen at hs; omega)) w hc
theorem wrap_is (a : Int) : IntKind.i64.wrap a = wrap64 a := by rw [IntKind.wrap_i64]; unfold wrap64; omega
/-- a cursor behind a box -/
structure InvW (base gb b : Nat) (s : ByteArray × Bool) (W : World) : Prop where
  bx : RowIs W gb (.cells #[.pointer (some ⟨b, 0, none⟩)] 54)
  cu : CurAt b s.1 s.2 W
  sz : s.1.size ≤ maxLen
  l1 : gb < base
  l2 : b < base
  ne : gb ≠ b
theorem InvW.below {base gb b : Nat} {s : ByteArray × Bool} {W W2 : World} (h : InvW base gb b s W) (hb : Below base W W2) : InvW base gb b s W2 := ⟨(hb.block gb h.l1).trans h.bx, (hb.block b h.l2).trans h.cu, h.sz, h.l1, h.l2, h.ne⟩
theorem InvW.next {base gb b : Nat} {s s2 : ByteArray × Bool} {W W2 : World} (h : InvW base gb b s W) (hc : CurAt b s2.1 s2.2 W2) (hg : W.grownBy W2 (some b)) (hz : s2.1.size ≤ s.1.size) : InvW base gb b s2 W2 :=
  ⟨(hg.block gb (Array.getElem?_eq_some_iff.1 h.bx).1 (fun e => h.ne (by cases e; rfl))).trans h.bx, hc, Nat.le_trans hz h.sz, h.l1, h.l2, h.ne⟩
theorem InvW.cell {base gb b : Nat} {s : ByteArray × Bool} {W : World} (h : InvW base gb b s W) : W.cell? ⟨gb, 0, none⟩ = some (.pointer (some ⟨b, 0, none⟩)) := cell_of_row _ _ _ _ _ _ h.bx
set_option maxRecDepth 100000 in
set_option maxHeartbeats 1000000 in
theorem readW_one (base gb b : Nat) (s : ByteArray × Bool) (w : World) (h : InvW base gb b s w) (hw : base ≤ w.heap.size) :
    Calls Tryz.prog 50 #[.pointer (some ⟨gb, 0, none⟩)] w fun e w' => e = .returned (.agg #[.int .i64 (Ch.step1 s).1.1, .int .u64 ((Ch.step1 s).1.2 : Nat)]) ∧ InvW base gb b (Ch.step1 s).2 w' ∧ Far w w' (OneSet b) := by
  have hbl := h.l2
  have HI : Hid (InvW base gb b s (w.alloc (.cells #[.int .i64 0, .int .u64 0] 30)).drew) := Lib.hid ((h.below (((Below.refl base w).alloc hw _).drew)))
  have HR : Hid (RowIs (w.alloc (.cells #[.int .i64 0, .int .u64 0] 30)).drew w.heap.size (.cells #[.int .i64 0, .int .u64 0] 30)) := Lib.hid (RowIs.one _ _)
  have HF : Hid (Far w (w.alloc (.cells #[.int .i64 0, .int .u64 0] 30)).drew (OneSet b)) := Lib.hid (far_of_below ((Below.refl w.heap.size w).alloc (Nat.le_refl _) _).drew _)
  have hst : Ch.step1 s = ((wrap64 ((Ch.adv true s).1 : Int), (Ch.adv true (Ch.adv true s).2).1), (Ch.adv true (Ch.adv true s).2).2) := rfl
  have z1 := Ch.adv_size true s
  have z2 := Ch.adv_size true (Ch.adv true s).2
  have hcall1 := fun W hc => curWide_ch b s h.sz W hc
  have hcall2 := fun W hc => curWide_ch b (Ch.adv true s).2 (Nat.le_trans z1 h.sz) W hc
  rw [hst]
  generalize Ch.adv true (Ch.adv true s).2 = a2 at *
  generalize Ch.adv true s = a1 at *
  obtain ⟨n1, s1⟩ := a1
  obtain ⟨n2, s2⟩ := a2
  simp only at hcall1 hcall2 z1 z2 ⊢
  have HC1 := Lib.hid hcall1; have HC2 := Lib.hid hcall2
  have hwr : IntKind.i64.wrap (n1 : Int) = wrap64 (n1 : Int) := wrap_is _
  clear hcall1 hcall2 hst h
  go_enter Tryz.func50, Tryz.ntmps50
  go_wp2_with fail
  refine plain_held (fun U => U.cell? ⟨gb, 0, none⟩ = some (.pointer (some ⟨b, 0, none⟩))) (by kernel_rfl) ?_
  generalize (w.alloc (.cells #[.int .i64 0, .int .u64 0] 30)).drew = wd at *
  have hrb : w.heap.size ≠ b := by omega
  refine wpAnyH_pickQ (S := fun U => U.cell? ⟨gb, 0, none⟩ = some (.pointer (some ⟨b, 0, none⟩))) (by kernel_rfl) Only.panic Only.keepsIn (w := wd) HI.out.cell [0, 3] 5 _ _ (by kernel_rfl) ?_
  refine PickQ.value (d := some 2) (.pointer (some ⟨b, 0, none⟩)) rfl rfl (by kernel_rfl) (fun U hU => (by go_simp)) ?_
  refine PickQ.value (d := some 5) (.pointer (some ⟨b, 0, none⟩)) rfl rfl (by kernel_rfl) (fun U hU => (by go_simp)) ?_
  simp only [PickQ, Act.put, List.setIfInBounds_toArray]
  refine wpAnyH_one (i := 1) (by kernel_rfl) rfl (by kernel_rfl) ?_
  intro K hK
  unfold Oper.wp
  go_simp
  refine (HC1.out _ HI.out.cu).mono ?_; rintro e w2 ⟨rfl, hc2, hg2⟩
  have HI2 := Lib.hid (HI.out.next hc2 hg2 z1)
  have HR2 : Hid (RowIs w2 w.heap.size (.cells #[.int .i64 0, .int .u64 0] 30)) := Lib.hid (grown_keep HR.out hg2 hrb)
  have HF2 := Lib.hid (HF.out.step hg2 (fun r e => by cases e; exact .inl rfl))
  refine hK _ _ HI2.out.cell (fun _ => ?_)
  clear hK K hc2 hg2
  refine wpAnyH_pickQ (S := fun U => U.cell? ⟨gb, 0, none⟩ = some (.pointer (some ⟨b, 0, none⟩))) (by kernel_rfl) Only.panic Only.keepsIn (w := w2) HI2.out.cell [2] 3 _ _ (by kernel_rfl) ?_
  refine PickQ.value (d := some 4) (.int .i64 (wrap64 (n1 : Int))) rfl rfl (by kernel_rfl) (fun U hU => (by go_simp)) ?_
  simp only [PickQ, Act.put, List.setIfInBounds_toArray]
  refine wpAnyH_one (i := 4) (by kernel_rfl) rfl (by kernel_rfl) ?_
  intro K hK
  unfold Oper.wp
  go_simp
  refine (HC2.out _ HI2.out.cu).mono ?_; rintro e w3 ⟨rfl, hc3, hg3⟩
  have HI3 := Lib.hid (HI2.out.next hc3 hg3 z2)
  have HR3 : Hid (RowIs w3 w.heap.size (.cells #[.int .i64 0, .int .u64 0] 30)) := Lib.hid (grown_keep HR2.out hg3 hrb)
  have HF3 := Lib.hid (HF2.out.step hg3 (fun r e => by cases e; exact .inl rfl))
  refine hK _ _ HI3.out.cell (fun _ => ?_)
  clear hK K hc3 hg3
  refine wpAnyH_one (i := 5) (by kernel_rfl) rfl (by kernel_rfl) ?_
  intro K hK
  unfold Oper.wp
  go_simp
  refine hK _ _ HI3.out.cell (fun _ => ?_)
  clear hK K
  have f0 := frozen_of_row _ _ 0 _ _ HR3.out
  have f1 := frozen_of_row _ _ 1 _ _ HR3.out
  have c0 := cell_of_row _ _ 0 _ _ _ HR3.out
  have c1 := cell_of_row _ _ 1 _ _ _ HR3.out
  simp only [List.getElem?_toArray, List.getElem?_cons_zero, List.getElem?_cons_succ] at c0 c1
  have hg4 := grown_trans (grown_setCell w3 w.heap.size 0 (.int .i64 (wrap64 (n1 : Int)))) (grown_setCell _ w.heap.size 1 (.int .u64 (n2 : Int)))
  have HR4 := Lib.hid (heap_setCell_same _ _ 1 _ _ (.int .u64 (n2 : Int)) (heap_setCell_same _ _ 0 _ _ (.int .i64 (wrap64 (n1 : Int))) HR3.out))
  have HI4 := Lib.hid (HI3.out.below ((Below.refl base w3).grown hg4 (Nat.le_trans hw HF3.out.size) (fun r e => by cases e; exact hw)))
  have HF4 := Lib.hid (HF3.out.step hg4 (fun r e => by cases e; exact .inr (Nat.le_refl _)))
  clear hg4
  refine wpAnyH_one (i := 6) (by kernel_rfl) rfl (by kernel_rfl) ?_
  intro K hK
  unfold Oper.wp
  go_simp
  refine hK _ _ HI4.out.cell (fun _ => ?_)
  clear hK K
  refine wpAnyH_done (by kernel_rfl) ?_ _
  refine Only.next ?_
  go_wp2_with fail
  exact bodyPost_ret (sam_results rfl _ _ _ _ _ rfl HR4.out) rfl ⟨rfl, HI4.out, HF4.out⟩
/-- a cursor, and a time, behind boxes -/
structure InvS (base gb tb b : Nat) (s : Int × (ByteArray × Bool)) (W : World) : Prop where
  bx : RowIs W gb (.cells #[.pointer (some ⟨b, 0, none⟩)] 54)
  tx : RowIs W tb (.cells #[.int .i64 s.1] 2)
  cu : CurAt b s.2.1 s.2.2 W
  sz : s.2.1.size ≤ maxLen
  l1 : gb < base
  l2 : b < base
  l3 : tb < base
  ne : gb ≠ b
  n2 : tb ≠ b
  n3 : gb ≠ tb
theorem InvS.below {base gb tb b : Nat} {s : Int × (ByteArray × Bool)} {W W2 : World} (h : InvS base gb tb b s W) (hb : Below base W W2) : InvS base gb tb b s W2 := ⟨(hb.block gb h.l1).trans h.bx, (hb.block tb h.l3).trans h.tx, (hb.block b h.l2).trans h.cu, h.sz, h.l1, h.l2, h.l3, h.ne, h.n2, h.n3⟩
theorem InvS.next {base gb tb b : Nat} {s : Int × (ByteArray × Bool)} {s2 : ByteArray × Bool} {W W2 : World} (h : InvS base gb tb b s W) (hc : CurAt b s2.1 s2.2 W2) (hg : W.grownBy W2 (some b)) (hz : s2.1.size ≤ s.2.1.size) : InvS base gb tb b (s.1, s2) W2 :=
  ⟨(hg.block gb (Array.getElem?_eq_some_iff.1 h.bx).1 (fun e => h.ne (by cases e; rfl))).trans h.bx, (hg.block tb (Array.getElem?_eq_some_iff.1 h.tx).1 (fun e => h.n2 (by cases e; rfl))).trans h.tx, hc, Nat.le_trans hz h.sz, h.l1, h.l2, h.l3, h.ne, h.n2, h.n3⟩
theorem InvS.time {base gb tb b : Nat} {s : Int × (ByteArray × Bool)} {W : World} (h : InvS base gb tb b s W) (x : Int) : InvS base gb tb b (x, s.2) (W.setCell ⟨tb, 0, none⟩ (.int .i64 x)) :=
  ⟨(heap_setCell_other _ _ _ _ h.n3).trans h.bx, heap_setCell_same _ tb 0 _ _ _ h.tx, (heap_setCell_other _ _ _ _ (fun e => h.n2 e.symm)).trans h.cu, h.sz, h.l1, h.l2, h.l3, h.ne, h.n2, h.n3⟩
theorem InvS.cell {base gb tb b : Nat} {s : Int × (ByteArray × Bool)} {W : World} (h : InvS base gb tb b s W) : W.cell? ⟨gb, 0, none⟩ = some (.pointer (some ⟨b, 0, none⟩)) ∧ W.cell? ⟨tb, 0, none⟩ = some (.int .i64 s.1) := ⟨cell_of_row _ _ _ _ _ _ h.bx, cell_of_row _ _ _ _ _ _ h.tx⟩
def TwoSet (b t : Nat) : Nat → Prop := fun k => k = b ∨ k = t
set_option maxRecDepth 100000 in
set_option maxHeartbeats 1000000 in
theorem readS_one (base gb tb b : Nat) (s : Int × (ByteArray × Bool)) (w : World) (h : InvS base gb tb b s w) (hw : base ≤ w.heap.size) :
    Calls Tryz.prog 55 #[.pointer (some ⟨tb, 0, none⟩), .pointer (some ⟨gb, 0, none⟩)] w fun e w' => e = .returned (.agg #[.int .i64 (Ch.step2 s).1.1, .int .u64 ((Ch.step2 s).1.2 : Nat)]) ∧ InvS base gb tb b (Ch.step2 s).2 w' ∧ Far w w' (TwoSet b tb) := by
  have hbl := h.l2
  have htl := h.l3
  have HI : Hid (InvS base gb tb b s (w.alloc (.cells #[.int .i64 0, .int .u64 0] 30)).drew) := Lib.hid ((h.below (((Below.refl base w).alloc hw _).drew)))
  have HR : Hid (RowIs (w.alloc (.cells #[.int .i64 0, .int .u64 0] 30)).drew w.heap.size (.cells #[.int .i64 0, .int .u64 0] 30)) := Lib.hid (RowIs.one _ _)
  have HF : Hid (Far w (w.alloc (.cells #[.int .i64 0, .int .u64 0] 30)).drew (TwoSet b tb)) := Lib.hid (far_of_below ((Below.refl w.heap.size w).alloc (Nat.le_refl _) _).drew _)
  obtain ⟨x, s⟩ := s
  have hst : Ch.step2 (x, s) = ((wrap64 (x + wrap64 (Num.zag (Ch.adv false s).1)), (Ch.adv true (Ch.adv false s).2).1), (wrap64 (x + wrap64 (Num.zag (Ch.adv false s).1)), (Ch.adv true (Ch.adv false s).2).2)) := rfl
  have z1 := Ch.adv_size false s
  have z2 := Ch.adv_size true (Ch.adv false s).2
  have hzl := Ch.adv_lt false s
  have hcall1 := fun W hc => curSmall_ch b s h.sz W hc
  have hcall2 := fun W hc => curWide_ch b (Ch.adv false s).2 (Nat.le_trans z1 h.sz) W hc
  have hzag := fun W => Zag_any (Ch.adv false s).1 (Lib.hid hzl) W
  rw [hst]
  generalize Ch.adv true (Ch.adv false s).2 = a2 at *
  generalize Ch.adv false s = a1 at *
  obtain ⟨n1, s1⟩ := a1
  obtain ⟨n2, s2⟩ := a2
  simp only at hcall1 hcall2 hzag z1 z2 ⊢
  have hzz : wrap64 (Num.zag n1) = Num.zag n1 := IntWalk.wrap64_in _ (Num.zag_bd n1 hzl)
  rw [hzz]
  generalize Num.zag n1 = zg at *
  have HC1 := Lib.hid hcall1; have HC2 := Lib.hid hcall2; have HZ := Lib.hid hzag
  clear hcall1 hcall2 hst h hzag hzz hzl
  go_enter Tryz.func55, Tryz.ntmps55
  go_upto_region 1 with fail
  have hrb : w.heap.size ≠ b := by omega
  have hrt : w.heap.size ≠ tb := by omega
  go_cut [5] (fun s5 wx => s5 = .int .u64 (n1 : Int) ∧ InvS base gb tb b (wrap64 (x + zg), s1) wx ∧ RowIs wx w.heap.size (.cells #[.int .i64 0, .int .u64 0] 30) ∧ Far w wx (TwoSet b tb))
  case first =>
    refine plain_held (fun U => U.cell? ⟨gb, 0, none⟩ = some (.pointer (some ⟨b, 0, none⟩))) (by kernel_rfl) ?_
    generalize (w.alloc (.cells #[.int .i64 0, .int .u64 0] 30)).drew = wd at *
    have tx0 := HI.out.cell.2
    refine wpAnyH_pickQ (S := fun U => U.cell? ⟨gb, 0, none⟩ = some (.pointer (some ⟨b, 0, none⟩))) (by kernel_rfl) Only.panic Only.keepsIn (w := wd) HI.out.cell.1 [1] 5 _ _ (by kernel_rfl) ?_
    refine PickQ.value (d := some 4) (.pointer (some ⟨b, 0, none⟩)) rfl rfl (by kernel_rfl) (fun U hU => (by go_simp)) ?_
    simp only [PickQ, Act.put, List.setIfInBounds_toArray]
    refine wpAnyH_two (i := 0) (j := 2) (by kernel_rfl) rfl rfl (by kernel_rfl) (by kernel_rfl) ?_ ?_
    · intro K hK
      unfold Oper.wp
      go_simp
      refine hK _ _ HI.out.cell.1 (fun _ => ?_)
      clear hK K
      refine wpAnyH_one (i := 2) (by kernel_rfl) rfl (by kernel_rfl) ?_
      intro K hK
      unfold Oper.wp
      go_simp
      refine (HC1.out _ HI.out.cu).mono ?_; rintro e w2 ⟨rfl, hc2, hg2⟩
      have HI2 := Lib.hid (HI.out.next hc2 hg2 z1)
      have HR2 : Hid (RowIs w2 w.heap.size (.cells #[.int .i64 0, .int .u64 0] 30)) := Lib.hid (grown_keep HR.out hg2 hrb)
      have HF2 := Lib.hid (HF.out.step hg2 (fun r e => by cases e; exact .inl (.inl rfl)))
      refine hK _ _ HI2.out.cell.1 (fun _ => ?_)
      clear hK K hc2 hg2
      refine wpAnyH_one (i := 3) (by kernel_rfl) rfl (by kernel_rfl) ?_
      intro K hK
      unfold Oper.wp
      go_simp
      refine (HZ.out _).mono ?_; rintro e w3 ⟨rfl, rfl⟩
      refine hK _ _ HI2.out.cell.1 (fun _ => ?_)
      clear hK K
      refine wpAnyH_one (i := 4) (by kernel_rfl) rfl (by kernel_rfl) ?_
      intro K hK
      unfold Oper.wp
      go_simp
      rw [wrap_is]
      refine hK _ _ HI2.out.cell.1 (fun _ => ?_)
      clear hK K
      have HI3 := Lib.hid (HI2.out.time (wrap64 (x + zg)))
      have f0 := frozen_of_row _ _ 0 _ _ HI2.out.tx
      have t0 := HI2.out.cell.2
      have HR3 : Hid (RowIs (w2.setCell ⟨tb, 0, none⟩ (.int .i64 (wrap64 (x + zg)))) w.heap.size (.cells #[.int .i64 0, .int .u64 0] 30)) := Lib.hid ((heap_setCell_other _ _ _ _ hrt).trans HR2.out)
      have HF3 := Lib.hid (HF2.out.step (grown_setCell w2 tb 0 (.int .i64 (wrap64 (x + zg)))) (fun r e => by cases e; exact .inl (.inr rfl)))
      refine wpAnyH_one (i := 5) (by kernel_rfl) rfl (by kernel_rfl) ?_
      intro K hK
      unfold Oper.wp
      go_simp
      refine hK _ _ HI3.out.cell.1 (fun _ => ?_)
      clear hK K
      refine wpAnyH_done (by kernel_rfl) ?_ _
      refine Only.next ?_
      go_wp2_with fail
      go_meet
      exact ⟨rfl, HI3.out, HR3.out, HF3.out⟩
    · intro K hK
      unfold Oper.wp
      go_simp
      refine (HC1.out _ HI.out.cu).mono ?_; rintro e w2 ⟨rfl, hc2, hg2⟩
      have HI2 := Lib.hid (HI.out.next hc2 hg2 z1)
      have HR2 : Hid (RowIs w2 w.heap.size (.cells #[.int .i64 0, .int .u64 0] 30)) := Lib.hid (grown_keep HR.out hg2 hrb)
      have HF2 := Lib.hid (HF.out.step hg2 (fun r e => by cases e; exact .inl (.inl rfl)))
      refine hK _ _ HI2.out.cell.1 (fun _ => ?_)
      clear hK K hc2 hg2
      have tx2 := HI2.out.cell.2
      refine wpAnyH_pickQ (S := fun U => U.cell? ⟨gb, 0, none⟩ = some (.pointer (some ⟨b, 0, none⟩))) (by kernel_rfl) Only.panic Only.keepsIn (w := w2) HI2.out.cell.1 [3] 3 _ _ (by kernel_rfl) ?_
      refine PickQ.call (d := some 6) (.int .i64 zg) 56 #[.int .u64 (n1 : Int)] rfl rfl (by kernel_rfl) (fun U hU => (by go_simp)) (fun U hU => (HZ.out U).mono (fun e w2 h => ⟨h.1, h.2.symm⟩)) ?_
      simp only [PickQ, Act.put, List.setIfInBounds_toArray]
      refine wpAnyH_one (i := 0) (by kernel_rfl) rfl (by kernel_rfl) ?_
      intro K hK
      unfold Oper.wp
      go_simp
      refine hK _ _ HI2.out.cell.1 (fun _ => ?_)
      clear hK K tx2
      refine wpAnyH_one (i := 4) (by kernel_rfl) rfl (by kernel_rfl) ?_
      intro K hK
      unfold Oper.wp
      go_simp
      rw [wrap_is]
      refine hK _ _ HI2.out.cell.1 (fun _ => ?_)
      clear hK K
      have HI3 := Lib.hid (HI2.out.time (wrap64 (x + zg)))
      have f0 := frozen_of_row _ _ 0 _ _ HI2.out.tx
      have t0 := HI2.out.cell.2
      have HR3 : Hid (RowIs (w2.setCell ⟨tb, 0, none⟩ (.int .i64 (wrap64 (x + zg)))) w.heap.size (.cells #[.int .i64 0, .int .u64 0] 30)) := Lib.hid ((heap_setCell_other _ _ _ _ hrt).trans HR2.out)
      have HF3 := Lib.hid (HF2.out.step (grown_setCell w2 tb 0 (.int .i64 (wrap64 (x + zg)))) (fun r e => by cases e; exact .inl (.inr rfl)))
      refine wpAnyH_one (i := 5) (by kernel_rfl) rfl (by kernel_rfl) ?_
      intro K hK
      unfold Oper.wp
      go_simp
      refine hK _ _ HI3.out.cell.1 (fun _ => ?_)
      clear hK K
      refine wpAnyH_done (by kernel_rfl) ?_ _
      refine Only.next ?_
      go_wp2_with fail
      go_meet
      exact ⟨rfl, HI3.out, HR3.out, HF3.out⟩
  case rest =>
    obtain ⟨rfl, hi1, hr1, hf1⟩ := hcut
    have HI1 := Lib.hid hi1; have HR1 := Lib.hid hr1; have HF1 := Lib.hid hf1
    clear hi1 hr1 hf1 HI HR HF
    go_wp2_with fail
    refine plain_held (fun U => U.cell? ⟨gb, 0, none⟩ = some (.pointer (some ⟨b, 0, none⟩)) ∧ U.cell? ⟨tb, 0, none⟩ = some (.int .i64 (wrap64 (x + zg)))) (by kernel_rfl) ?_
    generalize hnt : wrap64 (x + zg) = nt at *
    have HNT := Lib.hid hnt; clear hnt
    have HId : Hid (InvS base gb tb b (nt, s1) wc.drew) := Lib.hid (HI1.out.below (Below.refl _ _).drew)
    have HRd : Hid (RowIs wc.drew w.heap.size (.cells #[.int .i64 0, .int .u64 0] 30)) := Lib.hid HR1.out
    have HFd : Hid (Far w wc.drew (TwoSet b tb)) := Lib.hid (HF1.out.trans (far_of_below (Below.refl _ _).drew _) (fun k hk => .inl hk))
    generalize wc.drew = wd at *
    clear HI1 HR1 HF1
    refine wpAnyH_pickQ (S := fun U => U.cell? ⟨gb, 0, none⟩ = some (.pointer (some ⟨b, 0, none⟩)) ∧ U.cell? ⟨tb, 0, none⟩ = some (.int .i64 nt)) (by kernel_rfl) Only.panic Only.keepsIn (w := wd) HId.out.cell [0, 1] 3 _ _ (by kernel_rfl) ?_
    refine PickQ.value (d := some 8) (.int .i64 nt) rfl rfl (by kernel_rfl) (fun U hU => (by have q := hU.2; go_simp)) ?_
    refine PickQ.value (d := some 9) (.pointer (some ⟨b, 0, none⟩)) rfl rfl (by kernel_rfl) (fun U hU => (by have q := hU.1; go_simp)) ?_
    simp only [PickQ, Act.put, List.setIfInBounds_toArray]
    refine wpAnyH_one (i := 2) (by kernel_rfl) rfl (by kernel_rfl) ?_
    intro K hK
    unfold Oper.wp
    go_simp
    refine (HC2.out _ HId.out.cu).mono ?_; rintro e w3 ⟨rfl, hc3, hg3⟩
    have HI3 := Lib.hid (HId.out.next hc3 hg3 z2)
    have HR3 : Hid (RowIs w3 w.heap.size (.cells #[.int .i64 0, .int .u64 0] 30)) := Lib.hid (grown_keep HRd.out hg3 hrb)
    have HF3 := Lib.hid (HFd.out.step hg3 (fun r e => by cases e; exact .inl (.inl rfl)))
    refine hK _ _ HI3.out.cell (fun _ => ?_)
    clear hK K hc3 hg3
    refine wpAnyH_one (i := 3) (by kernel_rfl) rfl (by kernel_rfl) ?_
    intro K hK
    unfold Oper.wp
    go_simp
    refine hK _ _ HI3.out.cell (fun _ => ?_)
    clear hK K
    have f0 := frozen_of_row _ _ 0 _ _ HR3.out
    have f1 := frozen_of_row _ _ 1 _ _ HR3.out
    have c0 := cell_of_row _ _ 0 _ _ _ HR3.out
    have c1 := cell_of_row _ _ 1 _ _ _ HR3.out
    simp only [List.getElem?_toArray, List.getElem?_cons_zero, List.getElem?_cons_succ] at c0 c1
    have hg4 := grown_trans (grown_setCell w3 w.heap.size 0 (.int .i64 nt)) (grown_setCell _ w.heap.size 1 (.int .u64 (n2 : Int)))
    have HR4 := Lib.hid (heap_setCell_same _ _ 1 _ _ (.int .u64 (n2 : Int)) (heap_setCell_same _ _ 0 _ _ (.int .i64 nt) HR3.out))
    have HI4 := Lib.hid (HI3.out.below ((Below.refl base w3).grown hg4 (Nat.le_trans hw HF3.out.size) (fun r e => by cases e; exact hw)))
    have HF4 := Lib.hid (HF3.out.step hg4 (fun r e => by cases e; exact .inr (Nat.le_refl _)))
    clear hg4
    refine wpAnyH_one (i := 4) (by kernel_rfl) rfl (by kernel_rfl) ?_
    intro K hK
    unfold Oper.wp
    go_simp
    refine hK _ _ HI4.out.cell (fun _ => ?_)
    clear hK K
    refine wpAnyH_done (by kernel_rfl) ?_ _
    refine Only.next ?_
    go_wp2_with fail
    have e := HNT.out; subst e
    exact bodyPost_ret (sam_results rfl _ _ _ _ _ rfl HR4.out) rfl ⟨rfl, HI4.out, HF4.out⟩
end Go.Proofs.YtfgcgjogaaofdaaGreatDoor
/-
  What getBits$1 of package chunk comes to.
-/
namespace Go.Proofs.YtfgcgjogaaofdaaGreatDoor
open Go.RowKit
def step3 (ts : Nat → Int) (vs : Nat → Nat) (s : Nat × (ByteArray × Bool)) : (Int × Nat) × (Nat × (ByteArray × Bool)) := ((ts s.1, vs s.1), (s.1 + 1, s.2))
/-- rows of times, and of values, and a count, behind boxes; a cursor beside them -/
structure InvB (w0 : World) (base ib tb vb b m : Nat) (A1 : Option Addr) (c1 : Nat) (A2 : Option Addr) (c2 : Nat) (ts : Nat → Int) (vs : Nat → Nat) (s : Nat × (ByteArray × Bool)) (W : World) : Prop where
  ix : RowIs W ib (.cells #[.int .i64 (s.1 : Nat)] 3)
  tx : RowIs W tb (.cells #[.slice A1 m c1] 45)
  vx : RowIs W vb (.cells #[.slice A2 m c2] 46)
  rt : IntRow w0 A1 m .i64 ts
  rv : IntRow w0 A2 m .u64 (fun i => (vs i : Int))
  cu : CurAt b s.2.1 s.2.2 W
  bel : Below w0.heap.size w0 W
  l0 : w0.heap.size ≤ ib
  l1 : ib < base
  l2 : tb < base
  l3 : vb < base
  l4 : b < base
  lo : w0.heap.size ≤ base
  n1 : ib ≠ tb
  n2 : ib ≠ vb
  n3 : ib ≠ b
variable {w0 : World} {base ib tb vb b m : Nat} {A1 : Option Addr} {c1 : Nat} {A2 : Option Addr} {c2 : Nat} {ts : Nat → Int} {vs : Nat → Nat} {s : Nat × (ByteArray × Bool)}
theorem InvB.below {W W2 : World} (h : InvB w0 base ib tb vb b m A1 c1 A2 c2 ts vs s W) (hb : Below base W W2) : InvB w0 base ib tb vb b m A1 c1 A2 c2 ts vs s W2 :=
  ⟨(hb.block ib h.l1).trans h.ix, (hb.block tb h.l2).trans h.tx, (hb.block vb h.l3).trans h.vx, h.rt, h.rv, (hb.block b h.l4).trans h.cu, h.bel.trans (hb.mono h.lo), h.l0, h.l1, h.l2, h.l3, h.l4, h.lo, h.n1, h.n2, h.n3⟩
theorem InvB.count {W : World} (h : InvB w0 base ib tb vb b m A1 c1 A2 c2 ts vs s W) (k : Nat) : InvB w0 base ib tb vb b m A1 c1 A2 c2 ts vs (k, s.2) (W.setCell ⟨ib, 0, none⟩ (.int .i64 (k : Int))) :=
  ⟨heap_setCell_same _ ib 0 _ _ _ h.ix, (heap_setCell_other _ _ _ _ (fun e => h.n1 e.symm)).trans h.tx, (heap_setCell_other _ _ _ _ (fun e => h.n2 e.symm)).trans h.vx, h.rt, h.rv, (heap_setCell_other _ _ _ _ (fun e => h.n3 e.symm)).trans h.cu, h.bel.setCell h.l0 _, h.l0, h.l1, h.l2, h.l3, h.l4, h.lo, h.n1, h.n2, h.n3⟩
set_option maxRecDepth 100000 in
set_option maxHeartbeats 1000000 in
theorem readB_one (hm : m ≤ 1000) (k : Nat) (c : ByteArray × Bool) (w : World) (h : InvB w0 base ib tb vb b m A1 c1 A2 c2 ts vs (k, c) w) (hk : k < m) (hw : base ≤ w.heap.size) :
    Calls Tryz.prog 63 #[.pointer (some ⟨ib, 0, none⟩), .pointer (some ⟨tb, 0, none⟩), .pointer (some ⟨vb, 0, none⟩)] w fun e w' => e = .returned (.agg #[.int .i64 (ts k), .int .u64 (vs k : Int)]) ∧ InvB w0 base ib tb vb b m A1 c1 A2 c2 ts vs (k + 1, c) w' ∧ Far w w' (OneSet ib) := by
  have hil := h.l1
  have hlt : ib < w.heap.size := by omega
  have i0 := cell_of_row _ _ 0 _ _ _ h.ix
  have g0 := frozen_of_row _ _ 0 _ _ h.ix
  simp only [List.getElem?_toArray, List.getElem?_cons_zero] at i0
  have e1 : wrap64 ((k : Int) + 1) = (k : Int) + 1 := IntWalk.wrap64_in _ (by omega)
  have HI : Hid (InvB w0 base ib tb vb b m A1 c1 A2 c2 ts vs (k + 1, c) ((w.setCell ⟨ib, 0, none⟩ (.int .i64 ((k : Int) + 1))).alloc (.cells #[.int .i64 0, .int .u64 0] 30)).drew) := Lib.hid ((h.count (k + 1)).below (((Below.refl base _).alloc (by simp [World.setCell]; exact hw) _).drew))
  have HR : Hid (RowIs ((w.setCell ⟨ib, 0, none⟩ (.int .i64 ((k : Int) + 1))).alloc (.cells #[.int .i64 0, .int .u64 0] 30)).drew w.heap.size (.cells #[.int .i64 0, .int .u64 0] 30)) := Lib.hid (by
    have := heap_alloc_new (w.setCell ⟨ib, 0, none⟩ (.int .i64 ((k : Int) + 1))) (.cells #[.int .i64 0, .int .u64 0] 30)
    have e : (w.setCell ⟨ib, 0, none⟩ (.int .i64 ((k : Int) + 1))).heap.size = w.heap.size := by simp [World.setCell]
    rw [e] at this
    exact this)
  have HF : Hid (Far w ((w.setCell ⟨ib, 0, none⟩ (.int .i64 ((k : Int) + 1))).alloc (.cells #[.int .i64 0, .int .u64 0] 30)).drew (OneSet ib)) := Lib.hid (((Far.refl w _).step (grown_setCell w ib 0 _) (fun r e => by cases e; exact .inl rfl)).step (grown_drew (World.grownBy_alloc _ _ none)) (fun r e => by cases e))
  clear h
  go_enter Tryz.func63, Tryz.ntmps63
  go_upto_region 2 with fail
  obtain ⟨a1, rfl, x1, -⟩ := HI.out.rt.at_ HI.out.bel hk
  obtain ⟨a2, rfl, x2, -⟩ := HI.out.rv.at_ HI.out.bel hk
  have y0 := cell_of_row _ _ 0 _ _ _ HI.out.ix
  have y1 := cell_of_row _ _ 0 _ _ _ HI.out.tx
  have y2 := cell_of_row _ _ 0 _ _ _ HI.out.vx
  simp only [List.getElem?_toArray, List.getElem?_cons_zero] at y0 y1 y2
  have e2 : IntKind.i64.wrap (((k : Int) + 1) - 1) = (k : Int) := by rw [IntWalk.i64_in _ (by omega)]; omega
  have e3 : wrap64 (((k : Int) + 1) - 1) = (k : Int) := by rw [IntWalk.wrap64_in _ (by omega)]; omega
  have e4 : (0 : Int) ≤ (k : Int) := by omega
  have e5 : (k : Int) < (m : Int) := by omega
  have y0' : (((w.setCell ⟨ib, 0, none⟩ (.int .i64 ((k : Int) + 1))).alloc (.cells #[.int .i64 0, .int .u64 0] 30)).drew).cell? ⟨ib, 0, none⟩ = some (.int .i64 ((k : Int) + 1)) := y0
  clear y0
  generalize hww : ((w.setCell ⟨ib, 0, none⟩ (.int .i64 ((k : Int) + 1))).alloc (.cells #[.int .i64 0, .int .u64 0] 30)) = wz at *
  generalize hk1 : ((k : Int) + 1) = k1 at *
  generalize htk : ts k = tk at *
  generalize hvk : (vs k : Int) = vk at *
  have HTK := Lib.hid htk; have HVK := Lib.hid hvk; have HK1 := Lib.hid hk1; clear htk hvk hk1
  refine plain_held (fun U => U.cell? ⟨tb, 0, none⟩ = some (.slice (some a1) m c1) ∧ U.cell? ⟨ib, 0, none⟩ = some (.int .i64 k1) ∧ U.cell? ⟨vb, 0, none⟩ = some (.slice (some a2) m c2) ∧ U.cell? (a1.add k) = some (.int .i64 tk) ∧ U.cell? (a2.add k) = some (.int .u64 vk)) (by kernel_rfl) ?_
  generalize wz.drew = wd at *
  refine wpAnyH_pickQ (S := fun U => U.cell? ⟨tb, 0, none⟩ = some (.slice (some a1) m c1) ∧ U.cell? ⟨ib, 0, none⟩ = some (.int .i64 k1) ∧ U.cell? ⟨vb, 0, none⟩ = some (.slice (some a2) m c2) ∧ U.cell? (a1.add k) = some (.int .i64 tk) ∧ U.cell? (a2.add k) = some (.int .u64 vk)) (by kernel_rfl) Only.panic Only.keepsIn (w := wd) ⟨y1, y0', y2, x1, x2⟩ [0, 1, 2, 3, 4, 5, 6, 7, 8, 9, 10] 1 _ _ (by kernel_rfl) ?_
  refine PickQ.value (d := some 6) (.slice (some a1) m c1) rfl rfl (by kernel_rfl) (fun U hU => (by have q := hU.1; go_simp)) ?_
  refine PickQ.value (d := some 7) (.int .i64 k1) rfl rfl (by kernel_rfl) (fun U hU => (by have q := hU.2.1; go_simp)) ?_
  refine PickQ.value (d := some 8) (.int .i64 (k : Int)) rfl rfl (by kernel_rfl) (fun U hU => (by go_simp)) ?_
  refine PickQ.value (d := some 9) (.pointer (some (a1.add k))) rfl rfl (by kernel_rfl) (fun U hU => (by go_simp)) ?_
  refine PickQ.value (d := some 10) (.int .i64 tk) rfl rfl (by kernel_rfl) (fun U hU => (by have q := hU.2.2.2.1; go_simp)) ?_
  refine PickQ.value (d := some 11) (.slice (some a2) m c2) rfl rfl (by kernel_rfl) (fun U hU => (by have q := hU.2.2.1; go_simp)) ?_
  refine PickQ.value (d := some 12) (.int .i64 k1) rfl rfl (by kernel_rfl) (fun U hU => (by have q := hU.2.1; go_simp)) ?_
  refine PickQ.value (d := some 13) (.int .i64 (k : Int)) rfl rfl (by kernel_rfl) (fun U hU => (by go_simp)) ?_
  refine PickQ.value (d := some 14) (.pointer (some (a2.add k))) rfl rfl (by kernel_rfl) (fun U hU => (by go_simp)) ?_
  refine PickQ.value (d := some 15) (.int .u64 vk) rfl rfl (by kernel_rfl) (fun U hU => (by have q := hU.2.2.2.2; go_simp)) ?_
  refine PickQ.value (d := some 16) (.agg #[.int .i64 tk, .int .u64 vk]) rfl rfl (by kernel_rfl) (fun U hU => (by go_simp)) ?_
  simp only [PickQ, Act.put, List.setIfInBounds_toArray]
  have f0 := frozen_of_row _ _ 0 _ _ HR.out
  have f1 := frozen_of_row _ _ 1 _ _ HR.out
  have c0 := cell_of_row _ _ 0 _ _ _ HR.out
  have c1' := cell_of_row _ _ 1 _ _ _ HR.out
  simp only [List.getElem?_toArray, List.getElem?_cons_zero, List.getElem?_cons_succ] at c0 c1'
  have hg4 := grown_trans (grown_setCell wd w.heap.size 0 (.int .i64 tk)) (grown_setCell _ w.heap.size 1 (.int .u64 vk))
  have HR4 := Lib.hid (heap_setCell_same _ _ 1 _ _ (.int .u64 vk) (heap_setCell_same _ _ 0 _ _ (.int .i64 tk) HR.out))
  have HI4 := Lib.hid (HI.out.below ((Below.refl base wd).grown hg4 (Nat.le_trans hw HF.out.size) (fun r e => by cases e; exact hw)))
  have HF4 := Lib.hid (HF.out.step hg4 (fun r e => by cases e; exact .inr (Nat.le_refl _)))
  have hbx : Below w0.heap.size w0 wd := HI.out.bel
  have hlo := HI.out.lo
  clear hg4
  refine wpAnyH_one (i := 11) (by kernel_rfl) rfl (by kernel_rfl) ?_
  intro K hK
  unfold Oper.wp
  go_simp
  have z0 := cell_of_row _ _ 0 _ _ _ HI4.out.ix
  have z1 := cell_of_row _ _ 0 _ _ _ HI4.out.tx
  have z2 := cell_of_row _ _ 0 _ _ _ HI4.out.vx
  have z3 := IntRow.more HI4.out.rt HI4.out.bel hk
  have z4 := IntRow.more HI4.out.rv HI4.out.bel hk
  rw [HTK.out] at z3; rw [HVK.out] at z4
  refine hK _ _ ⟨z1, by rw [← HK1.out]; exact z0, z2, z3, z4⟩ (fun _ => ?_)
  clear hK K z0 z1 z2 z3 z4
  refine wpAnyH_done (by kernel_rfl) ?_ _
  refine Only.next ?_
  go_wp2_with fail
  exact bodyPost_ret (sam_results rfl _ _ _ _ _ rfl HR4.out) rfl ⟨by rw [HTK.out, HVK.out], HI4.out, HF4.out⟩
end Go.Proofs.YtfgcgjogaaofdaaGreatDoor
/-
  What getWide and getSteps of package chunk come to.
-/
namespace Go.Proofs.YtfgcgjogaaofdaaGreatDoor
open Go.RowKit
/-- samples that were read, and the cursor behind them -/
def GotP (r : List (Int × Nat) × (ByteArray × Bool)) (b : Nat) (S : Nat → Prop) (w : World) (e : Ending) (w' : World) : Prop :=
  ∃ A c, e = .returned (.slice A r.1.length c) ∧ Row 2 (sx (Ch.sm (Ch.tL r.1) (Ch.vL r.1))) w' A r.1.length ∧ CurAt b r.2.1 r.2.2 w' ∧ Far w w' S
theorem GotP.none {b : Nat} {s : ByteArray} {bad : Bool} {S : Nat → Prop} {w w' : World} (hc : CurAt b s bad w') (hf : Far w w' S) : GotP ([], s, bad) b S w (.returned (.slice none 0 0)) w' :=
  ⟨Option.none, 0, rfl, fun h => absurd h (Nat.lt_irrefl 0), hc, hf⟩
theorem run_make_func (fn : Fn) (first cap : Array Value) (w : World) : (Instr.makeFunc fn first cap).run Tryz.prog w = .ok (.func fn first cap) w := rfl
theorem readW_got (gb b : Nat) (hne : gb ≠ b) (c : ByteArray × Bool) (hs : c.1.size ≤ maxLen) (W : World) (hbx : RowIs W gb (.cells #[.pointer (some ⟨b, 0, none⟩)] 54)) (hcu : CurAt b (Ch.adv true c).2.1 (Ch.adv true c).2.2 W) :
    Calls Tryz.prog 48 #[.pointer (some ⟨b, 0, none⟩), .int .u64 ((Ch.adv true c).1 : Nat), .func (.func 50) #[] #[.pointer (some ⟨gb, 0, none⟩)]] W (GotP (Ch.parse1 c) b (OneSet b) W) := by
  by_cases h : 200 < (Ch.adv true c).1
  · have hp : Ch.parse1 c = ([], (Ch.adv true c).2.1, true) := by unfold Ch.parse1; rw [if_pos h]
    refine (read_many _ _ b _ _ W hcu _ h).mono ?_
    rintro e w' ⟨rfl, hc, hg⟩
    rw [hp]
    exact GotP.none hc ((Far.refl _ _).step hg (fun r e => by cases e; exact .inl rfl))
  · have hp : Ch.parse1 c = (Ch.fin Ch.bad1 (Ch.rd Ch.step1 Ch.bad1 (Ch.adv true c).1 [] (Ch.adv true c).2), (Ch.rd Ch.step1 Ch.bad1 (Ch.adv true c).1 [] (Ch.adv true c).2).2) := by unfold Ch.parse1; rw [if_neg h]; rfl
    have hl1 : gb < W.heap.size := (Array.getElem?_eq_some_iff.1 hbx).1
    have hl2 : b < W.heap.size := (Array.getElem?_eq_some_iff.1 hcu).1
    refine (read_any Ch.step1 Ch.bad1 (fun s => s.1) 50 #[.pointer (some ⟨gb, 0, none⟩)] (fun args w => enters_of Tryz.func50 (by kernel_rfl) rfl args w) b (OneSet b) W (InvW W.heap.size gb b) (fun _ _ => True)
      (fun s U h => h.cu) (fun s U U2 h hb => h.below hb) (fun k hk => by have : k = b := hk; omega) (Ch.adv true c).1 (fun _ _ _ _ => trivial) (fun k s U _ _ hI hU => readW_one W.heap.size gb b s U hI hU) (by omega) (Ch.adv true c).2
      ⟨hbx, hcu, Nat.le_trans (Ch.adv_size true c) hs, hl1, hl2, hne⟩ trivial).mono ?_
    rintro e w' ⟨A, cc, rfl, hown, hinv, hfar⟩
    rw [hp]
    exact ⟨A, cc, rfl, own_smp hown, hinv.cu, hfar⟩
theorem readS_got (gb tb b : Nat) (hne : gb ≠ b) (hn2 : tb ≠ b) (hn3 : gb ≠ tb) (c : ByteArray × Bool) (hs : c.1.size ≤ maxLen) (W : World) (hbx : RowIs W gb (.cells #[.pointer (some ⟨b, 0, none⟩)] 54)) (htx : RowIs W tb (.cells #[.int .i64 0] 2)) (hcu : CurAt b (Ch.adv false c).2.1 (Ch.adv false c).2.2 W) :
    Calls Tryz.prog 48 #[.pointer (some ⟨b, 0, none⟩), .int .u64 ((Ch.adv false c).1 : Nat), .func (.func 55) #[] #[.pointer (some ⟨tb, 0, none⟩), .pointer (some ⟨gb, 0, none⟩)]] W (GotP (Ch.parse2 c) b (TwoSet b tb) W) := by
  by_cases h : 200 < (Ch.adv false c).1
  · have hp : Ch.parse2 c = ([], (Ch.adv false c).2.1, true) := by unfold Ch.parse2; rw [if_pos h]
    refine (read_many _ _ b _ _ W hcu _ h).mono ?_
    rintro e w' ⟨rfl, hc, hg⟩
    rw [hp]
    exact GotP.none hc ((Far.refl _ _).step hg (fun r e => by cases e; exact .inl (.inl rfl)))
  · have hp : Ch.parse2 c = (Ch.fin Ch.bad2 (Ch.rd Ch.step2 Ch.bad2 (Ch.adv false c).1 [] (0, (Ch.adv false c).2)), (Ch.rd Ch.step2 Ch.bad2 (Ch.adv false c).1 [] (0, (Ch.adv false c).2)).2.2) := by unfold Ch.parse2; rw [if_neg h]; rfl
    have hl1 : gb < W.heap.size := (Array.getElem?_eq_some_iff.1 hbx).1
    have hl2 : b < W.heap.size := (Array.getElem?_eq_some_iff.1 hcu).1
    have hl3 : tb < W.heap.size := (Array.getElem?_eq_some_iff.1 htx).1
    refine (read_any Ch.step2 Ch.bad2 (fun s => s.2.1) 55 #[.pointer (some ⟨tb, 0, none⟩), .pointer (some ⟨gb, 0, none⟩)] (fun args w => enters_of Tryz.func55 (by kernel_rfl) rfl args w) b (TwoSet b tb) W (InvS W.heap.size gb tb b) (fun _ _ => True)
      (fun s U h => h.cu) (fun s U U2 h hb => h.below hb) (fun k hk => by rcases hk with rfl | rfl <;> assumption) (Ch.adv false c).1 (fun _ _ _ _ => trivial) (fun k s U _ _ hI hU => readS_one W.heap.size gb tb b s U hI hU) (by omega) (0, (Ch.adv false c).2)
      ⟨hbx, htx, hcu, Nat.le_trans (Ch.adv_size false c) hs, hl1, hl2, hl3, hne, hn2, hn3⟩ trivial).mono ?_
    rintro e w' ⟨A, cc, rfl, hown, hinv, hfar⟩
    rw [hp]
    exact ⟨A, cc, rfl, own_smp hown, hinv.cu, hfar⟩
set_option maxRecDepth 100000 in
set_option maxHeartbeats 1000000 in
theorem getWide_any (b : Nat) (c : ByteArray × Bool) (hs : c.1.size ≤ maxLen) (w : World) (hc : CurAt b c.1 c.2 w) :
    Calls Tryz.prog 32 #[.pointer (some ⟨b, 0, none⟩)] w (GotP (Ch.parse1 c) b (OneSet b) w) := by
  have hbl : b < w.heap.size := (Array.getElem?_eq_some_iff.1 hc).1
  have hne : w.heap.size ≠ b := by omega
  have HB : Hid (RowIs (w.alloc (.cells #[.pointer (some ⟨b, 0, none⟩)] 54)).drew w.heap.size (.cells #[.pointer (some ⟨b, 0, none⟩)] 54)) := Lib.hid (RowIs.one _ _)
  have HC : Hid (CurAt b c.1 c.2 (w.alloc (.cells #[.pointer (some ⟨b, 0, none⟩)] 54)).drew) := Lib.hid (heap_keep hc ((Below.refl _ _).alloc (Nat.le_refl _) _).drew)
  have HF : Hid (Far w (w.alloc (.cells #[.pointer (some ⟨b, 0, none⟩)] 54)).drew (OneSet b)) := Lib.hid (far_of_below ((Below.refl _ _).alloc (Nat.le_refl _) _).drew _)
  have HW := Lib.hid (fun W h => curWide_ch b c hs W h)
  have HR := Lib.hid (fun W h1 h2 => readW_got w.heap.size b hne c hs W h1 h2)
  generalize Ch.adv true c = a at *
  obtain ⟨n, c2⟩ := a
  clear hc
  go_enter Tryz.func32, Tryz.ntmps32
  go_wp2_with fail
  refine plain_held (fun U => U.cell? ⟨w.heap.size, 0, none⟩ = some (.pointer (some ⟨b, 0, none⟩))) (by kernel_rfl) ?_
  generalize (w.alloc (.cells #[.pointer (some ⟨b, 0, none⟩)] 54)).drew = wd at *
  refine wpAnyH_pickQ (S := fun U => U.cell? ⟨w.heap.size, 0, none⟩ = some (.pointer (some ⟨b, 0, none⟩))) (by kernel_rfl) Only.panic Only.keepsIn (w := wd) (cell_of_row _ _ _ _ _ _ HB.out) [0, 1, 3] 3 _ _ (by kernel_rfl) ?_
  refine PickQ.value (d := some 3) (.pointer (some ⟨b, 0, none⟩)) rfl rfl (by kernel_rfl) (fun U hU => (by go_simp)) ?_
  refine PickQ.value (d := some 4) (.pointer (some ⟨b, 0, none⟩)) rfl rfl (by kernel_rfl) (fun U hU => (by go_simp)) ?_
  refine PickQ.value (d := some 6) (.func (.func 50) #[] #[.pointer (some ⟨w.heap.size, 0, none⟩)]) rfl rfl (by kernel_rfl) (fun U hU => (by have hmf := run_make_func; go_simp)) ?_
  simp only [PickQ, Act.put, List.setIfInBounds_toArray]
  refine wpAnyH_one (i := 2) (by kernel_rfl) rfl (by kernel_rfl) ?_
  intro K hK
  unfold Oper.wp
  go_simp
  refine (HW.out _ HC.out).mono ?_; rintro e w2 ⟨rfl, hc2, hg2⟩
  have HB2 : Hid (RowIs w2 w.heap.size (.cells #[.pointer (some ⟨b, 0, none⟩)] 54)) := Lib.hid (grown_keep HB.out hg2 hne)
  have HC2 : Hid (CurAt b c2.1 c2.2 w2) := Lib.hid hc2
  have HF2 := Lib.hid (HF.out.step hg2 (fun r e => by cases e; exact .inl rfl))
  refine hK _ _ (cell_of_row _ _ _ _ _ _ HB2.out) (fun _ => ?_)
  clear hK K hc2 hg2
  refine wpAnyH_one (i := 4) (by kernel_rfl) rfl (by kernel_rfl) ?_
  intro K hK
  unfold Oper.wp
  go_simp
  refine (HR.out _ HB2.out HC2.out).mono ?_; rintro e w3 ⟨A, cc, rfl, hr, hcu, hf⟩
  have HF3 := Lib.hid (HF2.out.trans hf (fun k hk => .inl hk))
  have hb3 : w3.cell? ⟨w.heap.size, 0, none⟩ = some (.pointer (some ⟨b, 0, none⟩)) := cell_of_row _ _ _ _ _ _ ((hf.same _ (Array.getElem?_eq_some_iff.1 HB2.out).1 (fun e => hne e)).trans HB2.out)
  have HRW := Lib.hid hr; have HCU := Lib.hid hcu
  refine hK _ _ hb3 (fun _ => ?_)
  clear hK K hr hcu hf
  refine wpAnyH_one (i := 5) (by kernel_rfl) rfl (by kernel_rfl) ?_
  intro K hK
  unfold Oper.wp
  go_simp
  refine hK _ _ hb3 (fun _ => ?_)
  clear hK K hb3
  refine wpAnyH_done (by kernel_rfl) ?_ _
  refine Only.next ?_
  go_wp2_with fail
  go_ret
  exact ⟨A, cc, rfl, HRW.out, HCU.out, HF3.out⟩
set_option maxRecDepth 100000 in
set_option maxHeartbeats 1000000 in
theorem getSteps_any (b : Nat) (c : ByteArray × Bool) (hs : c.1.size ≤ maxLen) (w : World) (hc : CurAt b c.1 c.2 w) :
    Calls Tryz.prog 34 #[.pointer (some ⟨b, 0, none⟩)] w (GotP (Ch.parse2 c) b (OneSet b) w) := by
  have hbl : b < w.heap.size := (Array.getElem?_eq_some_iff.1 hc).1
  have hne : w.heap.size ≠ b := by omega
  have hne2 : w.heap.size + 1 ≠ b := by omega
  have hal1 : Below w.heap.size w (w.alloc (.cells #[.pointer (some ⟨b, 0, none⟩)] 54)) := (Below.refl _ _).alloc (Nat.le_refl _) _
  have hal2 : Below (w.heap.size + 1) (w.alloc (.cells #[.pointer (some ⟨b, 0, none⟩)] 54)) ((w.alloc (.cells #[.pointer (some ⟨b, 0, none⟩)] 54)).alloc (.cells #[.int .i64 0] 2)).drew := ((Below.refl _ _).alloc (by simp) _).drew
  have HB : Hid (RowIs ((w.alloc (.cells #[.pointer (some ⟨b, 0, none⟩)] 54)).alloc (.cells #[.int .i64 0] 2)).drew w.heap.size (.cells #[.pointer (some ⟨b, 0, none⟩)] 54)) := Lib.hid ((hal2.block _ (Nat.lt_succ_self _)).trans (heap_alloc_new _ _))
  have HT : Hid (RowIs ((w.alloc (.cells #[.pointer (some ⟨b, 0, none⟩)] 54)).alloc (.cells #[.int .i64 0] 2)).drew (w.heap.size + 1) (.cells #[.int .i64 0] 2)) := Lib.hid (RowIs.two _ _ _)
  have HC : Hid (CurAt b c.1 c.2 ((w.alloc (.cells #[.pointer (some ⟨b, 0, none⟩)] 54)).alloc (.cells #[.int .i64 0] 2)).drew) := Lib.hid (heap_keep hc (hal1.trans (hal2.mono (by omega))))
  have HF : Hid (Far w ((w.alloc (.cells #[.pointer (some ⟨b, 0, none⟩)] 54)).alloc (.cells #[.int .i64 0] 2)).drew (OneSet b)) := Lib.hid (far_of_below (hal1.trans (hal2.mono (by omega))) _)
  have HW := Lib.hid (fun W h => curSmall_ch b c hs W h)
  have HR := Lib.hid (fun W h1 h2 h3 => readS_got w.heap.size (w.heap.size + 1) b hne hne2 (by omega) c hs W h1 h2 h3)
  generalize Ch.adv false c = a at *
  obtain ⟨n, c2⟩ := a
  clear hc hal1 hal2
  go_enter Tryz.func34, Tryz.ntmps34
  go_wp2_with fail
  refine plain_held (fun U => U.cell? ⟨w.heap.size, 0, none⟩ = some (.pointer (some ⟨b, 0, none⟩))) (by kernel_rfl) ?_
  generalize ((w.alloc (.cells #[.pointer (some ⟨b, 0, none⟩)] 54)).alloc (.cells #[.int .i64 0] 2)).drew = wd at *
  refine wpAnyH_pickQ (S := fun U => U.cell? ⟨w.heap.size, 0, none⟩ = some (.pointer (some ⟨b, 0, none⟩))) (by kernel_rfl) Only.panic Only.keepsIn (w := wd) (cell_of_row _ _ _ _ _ _ HB.out) [0, 1, 3] 3 _ _ (by kernel_rfl) ?_
  refine PickQ.value (d := some 4) (.pointer (some ⟨b, 0, none⟩)) rfl rfl (by kernel_rfl) (fun U hU => (by go_simp)) ?_
  refine PickQ.value (d := some 5) (.pointer (some ⟨b, 0, none⟩)) rfl rfl (by kernel_rfl) (fun U hU => (by go_simp)) ?_
  refine PickQ.value (d := some 7) (.func (.func 55) #[] #[.pointer (some ⟨w.heap.size + 1, 0, none⟩), .pointer (some ⟨w.heap.size, 0, none⟩)]) rfl rfl (by kernel_rfl) (fun U hU => (by have hmf := run_make_func; go_simp)) ?_
  simp only [PickQ, Act.put, List.setIfInBounds_toArray]
  refine wpAnyH_one (i := 2) (by kernel_rfl) rfl (by kernel_rfl) ?_
  intro K hK
  unfold Oper.wp
  go_simp
  refine (HW.out _ HC.out).mono ?_; rintro e w2 ⟨rfl, hc2, hg2⟩
  have HB2 : Hid (RowIs w2 w.heap.size (.cells #[.pointer (some ⟨b, 0, none⟩)] 54)) := Lib.hid (grown_keep HB.out hg2 hne)
  have HT2 : Hid (RowIs w2 (w.heap.size + 1) (.cells #[.int .i64 0] 2)) := Lib.hid (grown_keep HT.out hg2 hne2)
  have HC2 : Hid (CurAt b c2.1 c2.2 w2) := Lib.hid hc2
  have HF2 := Lib.hid (HF.out.step hg2 (fun r e => by cases e; exact .inl rfl))
  refine hK _ _ (cell_of_row _ _ _ _ _ _ HB2.out) (fun _ => ?_)
  clear hK K hc2 hg2
  refine wpAnyH_one (i := 4) (by kernel_rfl) rfl (by kernel_rfl) ?_
  intro K hK
  unfold Oper.wp
  go_simp
  refine (HR.out _ HB2.out HT2.out HC2.out).mono ?_; rintro e w3 ⟨A, cc, rfl, hr, hcu, hf⟩
  have HF3 := Lib.hid (HF2.out.trans hf (fun k hk => by
    rcases hk with hk | hk
    · exact .inl hk
    · exact .inr (by omega)))
  have hb3 : w3.cell? ⟨w.heap.size, 0, none⟩ = some (.pointer (some ⟨b, 0, none⟩)) := cell_of_row _ _ _ _ _ _ ((hf.same _ (Array.getElem?_eq_some_iff.1 HB2.out).1 (fun e => by rcases e with e | e <;> omega)).trans HB2.out)
  have HRW := Lib.hid hr; have HCU := Lib.hid hcu
  refine hK _ _ hb3 (fun _ => ?_)
  clear hK K hr hcu hf
  refine wpAnyH_one (i := 5) (by kernel_rfl) rfl (by kernel_rfl) ?_
  intro K hK
  unfold Oper.wp
  go_simp
  refine hK _ _ hb3 (fun _ => ?_)
  clear hK K hb3
  refine wpAnyH_done (by kernel_rfl) ?_ _
  refine Only.next ?_
  go_wp2_with fail
  go_ret
  exact ⟨A, cc, rfl, HRW.out, HCU.out, HF3.out⟩
end Go.Proofs.YtfgcgjogaaofdaaGreatDoor
