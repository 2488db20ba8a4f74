/-
  What the functions of package chunk come to: one sample as bytes, generations, of.
-/
import Derived.Test.YtfgcgjogaaofdaaGreatDoorChM
import Derived.Test.YtfgcgjogaaofdaaGreatDoorBld
import Derived.Test.YtfgcgjogaaofdaaGreatDoorRoundAny
import Derived.Deep.DeepMust
import Derived.Laws.EntriesVeiled
namespace Go.Proofs.YtfgcgjogaaofdaaGreatDoor
open Go.RowKit
theorem grown_then {w wr w2 : World} {row : Option Nat} (h : w.grownBy wr row) (hb : Below w.heap.size wr w2) : w.grownBy w2 row :=
  ⟨hb.os.trans h.os, hb.tape.trans h.tape, hb.output.trans h.output, Nat.le_trans h.size hb.size, fun k hk hne => (hb.block k hk).trans (h.block k hk hne)⟩
theorem results_cell_tmp {P : Program} {fn : Func} {p t : Tmp} {ty : TypeId} (h : fn.results = #[.cell p ty, .tmp t]) (tmps : Array Value) (w : World) (g : Nat) (u : TypeId) (cs : Array Value) (fr : Nat × Nat) (d : TypeDesc)
    (hp : tmps.getD p undef = .pointer (some ⟨g, 0, none⟩)) (hg : w.heap[g]? = some (.cells cs u fr))
    (hu : P.underlying ty = some d) (hd : (match d with | .struct _ | .array _ _ => true | _ => false) = true) (hi : (P.info? ty).map (·.size) = some cs.size) :
    (results fn tmps).run P w = .ok (.tuple #[.agg cs, tmps.getD t undef]) w := by
  have hp' : tmps[p]?.getD undef = .pointer (some ⟨g, 0, none⟩) := by simpa using hp
  simp [results, h, hp', asAddr, run_loadVar_row w g u ty cs fr d hg hu hd hi]
theorem own_two_ne {W : World} {b1 b2 e1 e2 n1 n2 s1 s2 : Nat} {v1 v2 : Value} {x1 x2 : List Value} (h1 : W.ownsRow b1 e1 s1 v1 n1 x1) (h2 : W.ownsRow b2 e2 s2 v2 n2 x2) (hne : e1 ≠ e2) : v1.ownBlock = none ∨ v1.ownBlock ≠ v2.ownBlock := by
  rcases h1.2 with ⟨rfl, _⟩ | ⟨g, c, cur, rfl, _, hg, _⟩
  · exact .inl rfl
  · refine .inr (fun e => ?_)
    rcases h2.2 with ⟨rfl, _⟩ | ⟨g2, c2, cur2, rfl, _, hg2, _⟩
    · cases e
    · have e2 : g = g2 := by simpa [Value.ownBlock] using e
      subst e2
      have := hg.symm.trans hg2
      simp at this
      exact hne this.2
theorem TextW_any (s : ByteArray) (hs : s.size ≤ 281474976710656) (w : World) :
    Calls Tryz.prog 57 #[.string s] w fun e w' => e = .returned (.string (Fr.txt s)) ∧ Below w.heap.size w w' := by
  have hw := Num.wrap_small s.size (by omega)
  have hz : (Num.smallB s.size).size ≤ 10 := Num.enc_length_le 9 _
  have HZ := Lib.hid hz; clear hz
  have HS := Lib.hid hs; clear hs
  go_enter Tryz.func57, Tryz.ntmps57
  go_wp2_with fail
  refine (Small_any s.size (Lib.hid (by have := HS.out; omega)) _).mono ?_; rintro e w1 ⟨rfl, hb⟩
  have HB := Lib.hid hb; clear hb
  have hs := HS.out
  have hz := HZ.out
  have hsum : ¬ 9223372036854775807 < (Num.smallB s.size).size + s.size := by omega
  go_wp2_with fail
  go_ret
  exact ⟨rfl, HB.out⟩
theorem Ch.u_wrap (t : Int) : IntKind.u64.wrap t = ((Ch.u t : Nat) : Int) := by rw [IntKind.wrap_u64]; unfold Ch.u; omega
set_option maxRecDepth 100000 in
set_option maxHeartbeats 1000000 in
theorem putW_one (t : Int) (v : Nat) (w : World) :
    Calls Tryz.prog 47 #[.agg #[.int .i64 t, .int .u64 (v : Int)]] w fun e w' => e = .returned (.string (Num.wideB (Ch.u t) ++ Num.wideB v)) ∧ Below w.heap.size w w' := by
  have hal : Below w.heap.size w (w.alloc (.cells #[.int .i64 t, .int .u64 (v : Int)] 30)) := (Below.refl _ _).alloc (Nat.le_refl _) _
  have c0 : (w.alloc (.cells #[.int .i64 t, .int .u64 (v : Int)] 30)).cell? ⟨w.heap.size, 0, none⟩ = some (.int .i64 t) := cell_of_row _ _ 0 _ _ _ (heap_alloc_new _ _)
  have c1 : (w.alloc (.cells #[.int .i64 t, .int .u64 (v : Int)] 30)).cell? ⟨w.heap.size, 1, none⟩ = some (.int .u64 (v : Int)) := cell_of_row _ _ 1 _ _ _ (heap_alloc_new _ _)
  have hu := Ch.u_wrap t
  have hw1 := fun W => Wide_any (Ch.u t) W
  have hw2 := fun W => Wide_any v W
  have s1 := Num.wideB_size (Ch.u t)
  have s2 := Num.wideB_size v
  generalize Num.wideB (Ch.u t) = a at *
  generalize Num.wideB v = b at *
  generalize Ch.u t = ut at *
  have hsum : ¬ 9223372036854775807 < a.size + b.size := by omega
  have HW1 := Lib.hid hw1; have HW2 := Lib.hid hw2; have HAL := Lib.hid hal
  clear hw1 hw2 hal s1 s2
  go_enter Tryz.func47, Tryz.ntmps47
  go_wp2_with fail
  refine plain_held (fun W => W.cell? ⟨w.heap.size, 0, none⟩ = some (.int .i64 t) ∧ W.cell? ⟨w.heap.size, 1, none⟩ = some (.int .u64 (v : Int))) (by kernel_rfl) ?_
  have k0 : (w.alloc (.cells #[.int .i64 t, .int .u64 (v : Int)] 30)).drew.cell? ⟨w.heap.size, 0, none⟩ = some (.int .i64 t) := c0
  have k1 : (w.alloc (.cells #[.int .i64 t, .int .u64 (v : Int)] 30)).drew.cell? ⟨w.heap.size, 1, none⟩ = some (.int .u64 (v : Int)) := c1
  have HAD := Lib.hid HAL.out.drew
  generalize (w.alloc (.cells #[.int .i64 t, .int .u64 (v : Int)] 30)).drew = wd at *
  clear c0 c1
  refine wpAnyH_pickQ (by kernel_rfl) Only.panic Only.keepsIn (w := wd) ⟨k0, k1⟩ [0, 1, 2, 4, 5] 4 _ _ (by kernel_rfl) ?_
  refine PickQ.value (d := some 3) (.pointer (some ⟨w.heap.size, 0, none⟩)) rfl rfl (by kernel_rfl) (fun U hU => (by go_simp)) ?_
  refine PickQ.value (d := some 4) (.int .i64 t) rfl rfl (by kernel_rfl) (fun U hU => (by have q := hU.1; go_simp)) ?_
  refine PickQ.value (d := some 5) (.int .u64 (ut : Int)) rfl rfl (by kernel_rfl) (fun U hU => (by go_simp)) ?_
  refine PickQ.value (d := some 7) (.pointer (some ⟨w.heap.size, 1, none⟩)) rfl rfl (by kernel_rfl) (fun U hU => (by go_simp)) ?_
  refine PickQ.value (d := some 8) (.int .u64 (v : Int)) rfl rfl (by kernel_rfl) (fun U hU => (by have q := hU.2; go_simp)) ?_
  simp only [PickQ, Act.put, List.setIfInBounds_toArray]
  refine wpAnyH_one (i := 3) (by kernel_rfl) rfl (by kernel_rfl) ?_
  intro K hK
  unfold Oper.wp
  go_simp
  refine (HW1.out _).mono ?_; rintro e w2 ⟨rfl, hb2⟩
  refine hK _ _ ⟨cell_keep k0 hb2, cell_keep k1 hb2⟩ (fun q2 => ?_)
  clear hK K
  have HB2 := Lib.hid (below_step HAD.out hb2); clear hb2
  refine wpAnyH_one (i := 6) (by kernel_rfl) rfl (by kernel_rfl) ?_
  intro K hK
  unfold Oper.wp
  go_simp
  refine (HW2.out _).mono ?_; rintro e w3 ⟨rfl, hb3⟩
  refine hK _ _ ⟨cell_keep q2.1 hb3, cell_keep q2.2 hb3⟩ (fun q3 => ?_)
  clear hK K
  have HB3 := Lib.hid (below_step HB2.out hb3); clear hb3
  refine wpAnyH_one (i := 7) (by kernel_rfl) rfl (by kernel_rfl) ?_
  intro K hK
  unfold Oper.wp
  go_simp
  refine hK _ _ q3 (fun _ => ?_)
  clear hK K
  refine wpAnyH_one (i := 8) (by kernel_rfl) rfl (by kernel_rfl) ?_
  intro K hK
  unfold Oper.wp
  go_simp
  refine hK _ _ q3 (fun _ => ?_)
  clear hK K
  refine wpAnyH_done (by kernel_rfl) ?_ _
  refine Only.next ?_
  go_wp2_with fail
  go_ret
  exact ⟨rfl, HB3.out⟩
set_option maxRecDepth 100000 in
set_option maxHeartbeats 1000000 in
theorem putS_one (tb : Nat) (ls t : Int) (v : Nat) (w : World) (hbox : RowIs w tb (.cells #[.int .i64 ls] 2)) :
    Calls Tryz.prog 52 #[.agg #[.int .i64 t, .int .u64 (v : Int)], .pointer (some ⟨tb, 0, none⟩)] w fun e w' => e = .returned (.string (Num.smallB (Num.zig (wrap64 (t - ls))) ++ Num.wideB v)) ∧ RowIs w' tb (.cells #[.int .i64 t] 2) ∧ w.grownBy w' (some tb) := by
  have htl : tb < w.heap.size := (Array.getElem?_eq_some_iff.1 hbox).1
  have hz := Ch.w64_in (t - ls)
  have hz1 : Hid (-9223372036854775808 ≤ wrap64 (t - ls) ∧ wrap64 (t - ls) ≤ 9223372036854775807) := Lib.hid ⟨hz.1, by have := hz.2; omega⟩
  have hzl := Num.zig_lt (wrap64 (t - ls)) hz1.out.1 hz1.out.2
  have hw1 := fun W => Zig_any (wrap64 (t - ls)) hz1 W
  have hw2 := fun W => Small_any (Num.zig (wrap64 (t - ls))) (Lib.hid hzl) W
  have hw3 := fun W => Wide_any v W
  have s1 := Fr.small_le (Num.zig (wrap64 (t - ls)))
  have s2 := Num.wideB_size v
  generalize Num.zig (wrap64 (t - ls)) = z at *
  generalize hst : wrap64 (t - ls) = st at *
  generalize Num.smallB z = a at *
  generalize Num.wideB v = b at *
  have hsum : ¬ 9223372036854775807 < a.size + b.size := by omega
  have d0 := cell_of_row _ _ 0 _ _ _ hbox
  have f0 := frozen_of_row _ _ 0 _ _ hbox
  have g2 : w.grownBy ((w.setCell ⟨tb, 0, none⟩ (.int .i64 t)).alloc (.cells #[.int .i64 t, .int .u64 (v : Int)] 30)) (some tb) := grown_trans (grown_setCell _ _ _ _) (World.grownBy_alloc _ _ _)
  have b2 : RowIs ((w.setCell ⟨tb, 0, none⟩ (.int .i64 t)).alloc (.cells #[.int .i64 t, .int .u64 (v : Int)] 30)) tb (.cells #[.int .i64 t] 2) := RowIs.keep (heap_setCell_same w tb 0 _ _ _ hbox) ((Below.refl _ _).alloc (Nat.le_refl _) _)
  have r2 : ((w.setCell ⟨tb, 0, none⟩ (.int .i64 t)).alloc (.cells #[.int .i64 t, .int .u64 (v : Int)] 30)).heap[w.heap.size]? = some (.cells #[.int .i64 t, .int .u64 (v : Int)] 30 (0, 0)) := by
    have := heap_alloc_new (w.setCell ⟨tb, 0, none⟩ (.int .i64 t)) (.cells #[.int .i64 t, .int .u64 (v : Int)] 30)
    simpa [World.setCell] using this
  have c1 := cell_of_row _ _ 1 _ _ _ r2
  simp at d0 c1
  have HW1 := Lib.hid hw1; have HW2 := Lib.hid hw2; have HW3 := Lib.hid hw3; have G2 := Lib.hid g2; have B2 := Lib.hid b2
  clear hw1 hw2 hw3 g2 b2 r2 s1 s2 hbox hz hz1 hzl
  go_enter Tryz.func52, Tryz.ntmps52
  go_upto_region 3 with fail
  generalize hwz : (w.setCell ⟨tb, 0, none⟩ (.int .i64 t)).alloc (.cells #[.int .i64 t, .int .u64 (v : Int)] 30) = wz at *
  refine plain_held (fun W => W.cell? ⟨w.heap.size, 1, none⟩ = some (.int .u64 (v : Int))) (by kernel_rfl) ?_
  have k1 : wz.drew.cell? ⟨w.heap.size, 1, none⟩ = some (.int .u64 (v : Int)) := c1
  have HBD : Hid (Below wz.heap.size wz wz.drew) := Lib.hid (Below.refl _ _).drew
  generalize hwd : wz.drew = wd at *
  clear c1 hwd
  refine wpAnyH_pickQ (S := fun W => W.cell? ⟨w.heap.size, 1, none⟩ = some (.int .u64 (v : Int))) (by kernel_rfl) Only.panic Only.keepsIn (w := wd) k1 [0, 3, 4] 5 _ _ (by kernel_rfl) ?_
  refine PickQ.value (d := some 11) (.int .i64 st) rfl rfl (by kernel_rfl) (fun U hU => (by go_simp)) ?_
  refine PickQ.value (d := some 14) (.pointer (some ⟨w.heap.size, 1, none⟩)) rfl rfl (by kernel_rfl) (fun U hU => (by go_simp)) ?_
  refine PickQ.value (d := some 15) (.int .u64 (v : Int)) rfl rfl (by kernel_rfl) (fun U hU => (by go_simp)) ?_
  simp only [PickQ, Act.put, List.setIfInBounds_toArray]
  refine wpAnyH_one (i := 1) (by kernel_rfl) rfl (by kernel_rfl) ?_
  intro K hK
  unfold Oper.wp
  go_simp
  refine (HW1.out _).mono ?_; rintro e w2 ⟨rfl, rfl⟩
  refine hK _ _ k1 (fun q2 => ?_)
  clear hK K
  refine wpAnyH_one (i := 2) (by kernel_rfl) rfl (by kernel_rfl) ?_
  intro K hK
  unfold Oper.wp
  go_simp
  refine (HW2.out _).mono ?_; rintro e w3 ⟨rfl, hb3⟩
  refine hK _ _ (cell_keep q2 hb3) (fun q3 => ?_)
  clear hK K
  have HB3 := Lib.hid (below_step HBD.out hb3); clear hb3
  refine wpAnyH_one (i := 5) (by kernel_rfl) rfl (by kernel_rfl) ?_
  intro K hK
  unfold Oper.wp
  go_simp
  refine (HW3.out _).mono ?_; rintro e w4 ⟨rfl, hb4⟩
  refine hK _ _ (cell_keep q3 hb4) (fun q4 => ?_)
  clear hK K
  have HB4 := Lib.hid (below_step HB3.out hb4); clear hb4
  refine wpAnyH_one (i := 6) (by kernel_rfl) rfl (by kernel_rfl) ?_
  intro K hK
  unfold Oper.wp
  go_simp
  refine hK _ _ q4 (fun _ => ?_)
  clear hK K
  refine wpAnyH_one (i := 7) (by kernel_rfl) rfl (by kernel_rfl) ?_
  intro K hK
  unfold Oper.wp
  go_simp
  refine hK _ _ q4 (fun _ => ?_)
  clear hK K
  refine wpAnyH_done (by kernel_rfl) ?_ _
  refine Only.next ?_
  go_wp2_with fail
  go_ret
  exact ⟨rfl, B2.out.keep HB4.out, grown_then G2.out (HB4.out.mono G2.out.size)⟩
/-- the functions of a generation -/
def putF (g : Nat) : Value := if g = 1 then .func (.func 31) #[] #[] else if g = 2 then .func (.func 33) #[] #[] else .func (.func 35) #[] #[]
def getF (g : Nat) : Value := if g = 1 then .func (.func 32) #[] #[] else if g = 2 then .func (.func 34) #[] #[] else .func (.func 36) #[] #[]
set_option maxRecDepth 100000 in
theorem generations_any (w : World) : Calls Tryz.prog 24 #[] w fun e w' => e = .returned (.agg #[.func (.func 31) #[] #[], .func (.func 32) #[] #[], .func (.func 33) #[] #[], .func (.func 34) #[] #[], .func (.func 35) #[] #[], .func (.func 36) #[] #[]]) ∧ Below w.heap.size w w' := by
  go_enter Tryz.func24, Tryz.ntmps24
  go_wp2_with fail
  refine bodyPost_ret (v := .agg #[.func (.func 31) #[] #[], .func (.func 32) #[] #[], .func (.func 33) #[] #[], .func (.func 34) #[] #[], .func (.func 35) #[] #[], .func (.func 36) #[] #[]]) (by simp [results, go_sem]) rfl ⟨rfl, (Below.refl _ _).alloc (Nat.le_refl _) _⟩
theorem gen_results {fn : Func} (h : fn.results = #[.cell 2 39, .tmp 3]) (tmps : Array Value) (w : World) (g : Nat) (a b v : Value) (hp : tmps.getD 2 undef = .pointer (some ⟨g, 0, none⟩)) (hv : tmps.getD 3 undef = v) (hg : w.heap[g]? = some (.cells #[a, b] 39 (0, 0))) :
    (results fn tmps).run Tryz.prog w = .ok (.tuple #[.agg #[a, b], v]) w := by
  subst hv
  exact results_cell_tmp h tmps w g _ #[a, b] _ (.struct (Tryz.prog.fieldsOf 39)) hp hg (by kernel_rfl) rfl (by kernel_rfl)
set_option maxRecDepth 100000 in
set_option maxHeartbeats 1000000 in
theorem of_ok (g : Int) (k : Nat) (h : g = 1 ∧ k = 1 ∨ g = 2 ∧ k = 2 ∨ g = 3 ∧ k = 3) (w : World) : Calls Tryz.prog 11 #[.int .i64 g] w fun e w' => e = .returned (.tuple #[.agg #[putF k, getF k], .bool true]) ∧ Below w.heap.size w w' := by
  have hr : RowIs (w.alloc (.cells #[.nilFunc, .nilFunc] 39)) w.heap.size (.cells #[.nilFunc, .nilFunc] 39) := RowIs.one _ _
  have hb : Below w.heap.size w (w.alloc (.cells #[.nilFunc, .nilFunc] 39)) := (Below.refl _ _).alloc (Nat.le_refl _) _
  have HR := Lib.hid hr; have HB := Lib.hid hb
  clear hr hb
  rcases h with ⟨rfl, rfl⟩ | ⟨rfl, rfl⟩ | ⟨rfl, rfl⟩
  all_goals
    go_enter Tryz.func11, Tryz.ntmps11
    go_wp2_with fail
    refine (generations_any _).mono ?_; rintro e w2 ⟨rfl, hb2⟩
    have hal : Below w2.heap.size w2 (w2.alloc (.cells #[.func (.func 31) #[] #[], .func (.func 32) #[] #[], .func (.func 33) #[] #[], .func (.func 34) #[] #[], .func (.func 35) #[] #[], .func (.func 36) #[] #[]] 55)) := (Below.refl _ _).alloc (Nat.le_refl _) _
    have HR2 := Lib.hid ((HR.out.keep hb2).keep hal); have HB2 := Lib.hid (below_step (below_step HB.out hb2) hal); clear hb2 hal
    have f0 := frozen_of_row _ _ 0 _ _ HR2.out
    have f1 := frozen_of_row _ _ 1 _ _ HR2.out
    have c0 := cell_of_row _ _ 0 _ _ _ HR2.out
    have c1 := cell_of_row _ _ 1 _ _ _ HR2.out
    simp only [List.getElem?_toArray, List.getElem?_cons_zero, List.getElem?_cons_succ] at c0 c1
    go_wp2_with fail
    refine bodyPost_ret (gen_results rfl _ _ _ _ _ _ rfl rfl (heap_setCell_same _ _ 1 _ _ _ (heap_setCell_same _ _ 0 _ _ _ HR2.out))) rfl ⟨rfl, ?_⟩
    exact (HB2.out.setCell (by show _ ≤ w.heap.size; omega) _).setCell (by show _ ≤ w.heap.size; omega) _
set_option maxRecDepth 100000 in
set_option maxHeartbeats 1000000 in
theorem of_no (g : Int) (h : ¬ (1 ≤ g ∧ g ≤ 3)) (w : World) : Calls Tryz.prog 11 #[.int .i64 g] w fun e w' => e = .returned (.tuple #[.agg #[.nilFunc, .nilFunc], .bool false]) ∧ Below w.heap.size w w' := by
  have hr : RowIs (w.alloc (.cells #[.nilFunc, .nilFunc] 39)) w.heap.size (.cells #[.nilFunc, .nilFunc] 39) := RowIs.one _ _
  have hb : Below w.heap.size w (w.alloc (.cells #[.nilFunc, .nilFunc] 39)) := (Below.refl _ _).alloc (Nat.le_refl _) _
  have HR := Lib.hid hr; have HB := Lib.hid hb
  clear hr hb
  have hd : decide (g < 1) = true ∨ (decide (g < 1) = false ∧ decide (3 < g) = true) := by
    simp only [decide_eq_true_eq, decide_eq_false_iff_not]; omega
  clear h
  rcases hd with d0 | ⟨d0, d1⟩
  all_goals
    go_enter Tryz.func11, Tryz.ntmps11
    go_wp2_with fail
    refine (generations_any _).mono ?_; rintro e w2 ⟨rfl, hb2⟩
    have hal : Below w2.heap.size w2 (w2.alloc (.cells #[.func (.func 31) #[] #[], .func (.func 32) #[] #[], .func (.func 33) #[] #[], .func (.func 34) #[] #[], .func (.func 35) #[] #[], .func (.func 36) #[] #[]] 55)) := (Below.refl _ _).alloc (Nat.le_refl _) _
    have HR2 := Lib.hid ((HR.out.keep hb2).keep hal); have HB2 := Lib.hid (below_step (below_step HB.out hb2) hal); clear hb2 hal
    have f0 := frozen_of_row _ _ 0 _ _ HR2.out
    have f1 := frozen_of_row _ _ 1 _ _ HR2.out
    have c0 := cell_of_row _ _ 0 _ _ _ HR2.out
    have c1 := cell_of_row _ _ 1 _ _ _ HR2.out
    simp only [List.getElem?_toArray, List.getElem?_cons_zero, List.getElem?_cons_succ] at c0 c1
    go_wp2_with fail
    refine bodyPost_ret (gen_results rfl _ _ _ _ _ _ rfl rfl (heap_setCell_same _ _ 1 _ _ _ (heap_setCell_same _ _ 0 _ _ _ HR2.out))) rfl ⟨rfl, ?_⟩
    exact (HB2.out.setCell (by show _ ≤ w.heap.size; omega) _).setCell (by show _ ≤ w.heap.size; omega) _
end Go.Proofs.YtfgcgjogaaofdaaGreatDoor
