/-
  MatchNot: the walk of the law.
-/
import Derived.Test.YtcdlkiephdghlaaMaO
import Derived.Laws.StructEq
namespace Go.Proofs.Ytcdlkiephdghlaa
open Go.RowKit
theorem run_part_any {P : Program} (w : World) (e : TypeId) (hn : (isAgg e).run P w = .ok false w) (cs : Array Value) (j : Nat) (v : Value) (hv : cs[j]? = some v) : (part e cs j).run P w = .ok v w := by
  simp [part, Sem.run_bind, hn, hv]
theorem mat_fields : Try.prog.underlying 32 = some (.struct (Try.prog.fieldsOf 32)) := by kernel_rfl
theorem run_equal_mat (w : World) (x : Int) (y z : ByteArray) : (Op.equalIn 10000 32 (.agg #[.int .i64 x, .string y, .string z]) (.agg #[.int .i64 x, .string y, .string z])).run Try.prog w = .ok true w := by
  rw [run_equalIn_struct w 9999 32 _ _ mat_fields (by kernel_rfl)]
  have hf : (Try.prog.fieldsOf 32).toList = [⟨"Kind", 3, 0, false, "", "", 0⟩, ⟨"Name", 9, 1, false, "", "", 8⟩, ⟨"Value", 9, 2, false, "", "", 24⟩] := by kernel_rfl
  rw [hf]
  have ai : (isAgg 3).run Try.prog w = .ok false w := by
    unfold isAgg; rw [Sem.run_bind, run_underlying Try.underlying3 w]; simp
  have as_ : (isAgg 9).run Try.prog w = .ok false w := by
    unfold isAgg; rw [Sem.run_bind, run_underlying Try.underlying9 w]; simp
  have p0 := run_part_any (P := Try.prog) w 3 ai #[.int .i64 x, .string y, .string z] 0 (.int .i64 x) rfl
  have p1 := run_part_any (P := Try.prog) w 9 as_ #[.int .i64 x, .string y, .string z] 1 (.string y) rfl
  have p2 := run_part_any (P := Try.prog) w 9 as_ #[.int .i64 x, .string y, .string z] 2 (.string z) rfl
  have e0 := run_equalIn_int (P := Try.prog) w 9998 3 .i64 .i64 x x Try.underlying3
  have e1 := run_equalIn_string (P := Try.prog) w 9998 9 y y Try.underlying9
  have e2 := run_equalIn_string (P := Try.prog) w 9998 9 z z Try.underlying9
  simp only [Op.eqFields, ne_eq, String.reduceEq, not_false_eq_true, if_true, Sem.run_bind, p0, e0, Result.andThen_ok]
  simp [Sem.run_bind, p1, e1, p2, e2]
/-- a matcher's block -/
def MatAt (W : World) (g : Nat) (k : Int) (n v : ByteArray) : Prop := W.heap[g]? = some (.cells #[.int .i64 k, .string n, .string v] 32 (0, 0))
theorem MatAt.later {W W2 : World} {g : Nat} {k : Int} {n v : ByteArray} (h : MatAt W g k n v) (hb : Below W.heap.size W W2) : MatAt W2 g k n v := heap_keep h hb
theorem MatAt.cells {W : World} {g : Nat} {k : Int} {n v : ByteArray} (h : MatAt W g k n v) : W.cell? ⟨g, 0, none⟩ = some (.int .i64 k) ∧ W.cell? ⟨g, 1, none⟩ = some (.string n) ∧ W.cell? ⟨g, 2, none⟩ = some (.string v) :=
  ⟨cell_of_row _ _ 0 _ _ _ h, cell_of_row _ _ 1 _ _ _ h, cell_of_row _ _ 2 _ _ _ h⟩
/-- what the last statement of MatchNot reads -/
structure NotIn (w : World) (gm gn gb : Nat) (k k2 : Int) (n v : ByteArray) (W : World) : Prop where
  bel : Below w.heap.size w W
  mm : MatAt W gm k n v
  nn : MatAt W gn k2 n v
  bb : MatAt W gb k n v
theorem NotIn.later {w W W2 : World} {gm gn gb : Nat} {k k2 : Int} {n v : ByteArray} (h : NotIn w gm gn gb k k2 n v W) (hb : Below W.heap.size W W2) : NotIn w gm gn gb k k2 n v W2 := ⟨h.bel.trans (hb.mono h.bel.size), h.mm.later hb, h.nn.later hb, h.bb.later hb⟩
theorem NotIn.drew {w W : World} {gm gn gb : Nat} {k k2 : Int} {n v : ByteArray} (h : NotIn w gm gn gb k k2 n v W) : NotIn w gm gn gb k k2 n v W.drew := ⟨h.bel.drew, h.mm, h.nn, h.bb⟩

set_option maxRecDepth 100000 in
set_option maxHeartbeats 4000000 in
theorem matchNot_walk0 (w : World) (mk : Int) (mn mv : ByteArray) (C : Option Addr) (n c : Nat) (f : Nat → Lab) (hn : n ≤ maxLen) (hL : LabRow w C n f) :
    Calls Try.prog 5 #[.agg #[.int .i64 mk, .string mn, .string mv], .slice C n c] w fun e w' => e = .returned (.bool true) ∧ Below w.heap.size w w' := by
  have RL := Lib.hid hL; clear hL
  have hal : ∀ (W : World) (o : Obj), Below W.heap.size W (W.alloc o) := fun W o => (Below.refl _ _).alloc (Nat.le_refl _) _
  have HAL := Lib.hid hal; clear hal
  have M0 : Hid (MatAt (w.alloc (.cells #[.int .i64 mk, .string mn, .string mv] 32)) w.heap.size mk mn mv) := Lib.hid (heap_alloc_new _ _)
  have B0 := Lib.hid (HAL.out w (.cells #[.int .i64 mk, .string mn, .string mv] 32))
  have KN := fun W => Not_any ⟨mk, mn, mv⟩ W
  simp only [Mat.val] at KN
  have fl := fun W (hW : Below w.heap.size w W) => Few_any C n c hn f W (RL.out.later hW)
  have heg : Try.prog.eqGuardType Try.prog.depth 32 = false := by kernel_rfl
  obtain ⟨nk, ok, hnot, hkind⟩ : ∃ (nk : Int) (ok : Bool), Ma.not ⟨mk, mn, mv⟩ = (⟨nk, mn, mv⟩, ok) ∧ ((ok = false ∧ nk = mk ∧ mk ≠ 0 ∧ mk ≠ 1) ∨ (ok = true ∧ ((mk = 0 ∧ nk = 1) ∨ (mk = 1 ∧ nk = 0)))) := by
    unfold Ma.not
    by_cases k0 : mk = 0
    · rw [if_pos k0]; exact ⟨1, true, rfl, .inr ⟨rfl, .inl ⟨k0, rfl⟩⟩⟩
    · rw [if_neg k0]
      by_cases k1 : mk = 1
      · rw [if_pos k1]; exact ⟨0, true, rfl, .inr ⟨rfl, .inr ⟨k1, rfl⟩⟩⟩
      · rw [if_neg k1]; exact ⟨mk, false, rfl, .inl ⟨rfl, rfl, k0, k1⟩⟩
  rw [hnot] at KN
  have CN := Lib.hid KN; have HK := Lib.hid hkind
  clear KN hnot hkind
  go_enter Try.func5, Try.ntmps5
  go_wp2_with fail
  refine (works_any _).mono ?_; rintro e w1 ⟨rfl, hb1⟩
  have B1 := Lib.hid (B0.out.trans (hb1.mono B0.out.size)); have M1 := Lib.hid (M0.out.later hb1); clear hb1 B0 M0
  obtain ⟨x0, x1, x2⟩ := M1.out.cells
  go_wp2_with fail
  refine (CN.out _).mono ?_; rintro e w2 ⟨rfl, hb2⟩
  have B2 := Lib.hid (below_step B1.out hb2); have M2 := Lib.hid (M1.out.later hb2); clear hb2 B1 M1 x0 x1 x2
  go_upto_region 5 with fail
  have N3 : Hid (MatAt (w2.alloc (.cells #[.int .i64 nk, .string mn, .string mv] 32)) w2.heap.size nk mn mv) := Lib.hid (heap_alloc_new _ _)
  have B3 := Lib.hid (below_step B2.out (HAL.out w2 (.cells #[.int .i64 nk, .string mn, .string mv] 32))); have M3 := Lib.hid (M2.out.later (HAL.out w2 (.cells #[.int .i64 nk, .string mn, .string mv] 32)))
  generalize w2.alloc (.cells #[.int .i64 nk, .string mn, .string mv] 32) = w3 at *
  generalize w2.heap.size = gn at *
  clear B2 M2
  cases h3 : La.few f n
  · rw [h3] at fl
    have FL := Lib.hid fl; clear fl h3
    go_wp2_with fail
    refine (FL.out _ B3.out).mono ?_; rintro e w4 ⟨rfl, hb4⟩
    have B4 := Lib.hid (below_step B3.out hb4); clear hb4
    go_wp2_with fail
    go_ret
    exact ⟨rfl, B4.out⟩
  rw [h3] at fl
  have kl := (La.few_yes h3).1
  have FL := Lib.hid fl; clear fl h3
  go_wp2_with fail
  refine (FL.out _ B3.out).mono ?_; rintro e w4 ⟨rfl, hb4⟩
  have B4 := Lib.hid (below_step B3.out hb4); have M4 := Lib.hid (M3.out.later hb4); have N4 := Lib.hid (N3.out.later hb4); clear hb4 B3 M3 N3
  obtain ⟨x0, x1, x2⟩ := M4.out.cells
  by_cases s1 : 300 < mn.size
  · have d1 : decide ((300 : Int) < (mn.size : Int)) = true := by simp; omega
    go_wp2_with fail
    go_ret
    exact ⟨rfl, B4.out⟩
  have d1 : decide ((300 : Int) < (mn.size : Int)) = false := by simp; omega
  by_cases s2 : 300 < mv.size
  · have d2 : decide ((300 : Int) < (mv.size : Int)) = true := by simp; omega
    go_wp2_with fail
    go_ret
    exact ⟨rfl, B4.out⟩
  have d2 : decide ((300 : Int) < (mv.size : Int)) = false := by simp; omega
  obtain ⟨y0, y1, y2⟩ := N4.out.cells
  clear s1 s2
  rcases HK.out with ⟨rfl, rfl, k0, k1⟩ | ⟨rfl, hkk⟩
  · have e0 : (nk != 0) = true := by simp [k0]
    have e1 : (nk != 1) = true := by simp [k1]
    have hel := fun W => run_equal_mat W nk mn mv
    clear k0 k1 HK
    go_wp2_with fail
    go_ret
    exact ⟨rfl, B4.out⟩
  have K2 : ∀ W, Calls Try.prog 28 #[.agg #[.int .i64 nk, .string mn, .string mv]] W fun e w' => e = .returned (.tuple #[.agg #[.int .i64 mk, .string mn, .string mv], .bool true]) ∧ Below W.heap.size W w' := fun W => by
    have := Not_any ⟨nk, mn, mv⟩ W
    rcases hkk with ⟨rfl, rfl⟩ | ⟨rfl, rfl⟩ <;> exact this
  obtain ⟨x, hx1, hx2⟩ : ∃ x : Bool, Ma.fits ⟨mk, mn, mv⟩ f n = x ∧ Ma.fits ⟨nk, mn, mv⟩ f n = !x := by
    rcases hkk with ⟨rfl, rfl⟩ | ⟨rfl, rfl⟩
    · exact ⟨decide (La.get f mn n 0 = mv), rfl, rfl⟩
    · exact ⟨!decide (La.get f mn n 0 = mv), rfl, (Bool.not_not _).symm⟩
  have F1 := fun W (hW : Below w.heap.size w W) => Fits_any ⟨mk, mn, mv⟩ C n c (by omega) f W (RL.out.later hW)
  have F2 := fun W (hW : Below w.heap.size w W) => Fits_any ⟨nk, mn, mv⟩ C n c (by omega) f W (RL.out.later hW)
  rw [hx1] at F1; rw [hx2] at F2
  simp only [Mat.val] at F1 F2
  have C1 := Lib.hid F1; have C2 := Lib.hid F2; have CB := Lib.hid K2
  clear F1 F2 K2 hx1 hx2 hkk HK
  go_wp2_with fail
  refine (CB.out _).mono ?_; rintro e w5 ⟨rfl, hb5⟩
  have B5 := Lib.hid (below_step B4.out hb5); have M5 := Lib.hid (M4.out.later hb5); have N5 := Lib.hid (N4.out.later hb5); clear hb5 B4 M4 N4 x0 x1 x2 y0 y1 y2 d1 d2
  go_upto_region 11 with fail
  have G6 : Hid (MatAt (w5.alloc (.cells #[.int .i64 mk, .string mn, .string mv] 32)) w5.heap.size mk mn mv) := Lib.hid (heap_alloc_new _ _)
  have hs6 : NotIn w w.heap.size gn w5.heap.size mk nk mn mv (w5.alloc (.cells #[.int .i64 mk, .string mn, .string mv] 32)) := ⟨below_step B5.out (HAL.out _ _), M5.out.later (HAL.out _ _), N5.out.later (HAL.out _ _), G6.out⟩
  generalize w5.alloc (.cells #[.int .i64 mk, .string mn, .string mv] 32) = w6 at *
  generalize w5.heap.size = gb at *
  clear B5 M5 N5 G6
  have hS := hs6.drew
  clear hs6
  refine plain_held (fun U => NotIn w w.heap.size gn gb mk nk mn mv U) (by kernel_rfl) ?_
  generalize w6.drew = wd at *
  refine wpAnyH_pick (by kernel_rfl) Only.panic (w := wd) hS [0, 1, 2, 3, 5, 6] 13 _ _ (by kernel_rfl) ?_
  refine PickOk.value (d := some 59) (v := .bool true) rfl rfl (by kernel_rfl) (fun U hU => (by go_simp)) ?_
  refine PickOk.value (d := some 60) (v := .bool true) rfl rfl (by kernel_rfl) (fun U hU => (by go_simp)) ?_
  refine PickOk.value (d := some 61) (v := .agg #[.int .i64 mk, .string mn, .string mv]) rfl rfl (by kernel_rfl) (fun U hU => (by obtain ⟨x0, x1, x2⟩ := hU.mm.cells; go_simp)) ?_
  refine PickOk.value (d := some 62) (v := .slice C n c) rfl rfl (by kernel_rfl) (fun U hU => (by go_simp)) ?_
  refine PickOk.value (d := some 64) (v := .agg #[.int .i64 nk, .string mn, .string mv]) rfl rfl (by kernel_rfl) (fun U hU => (by obtain ⟨x0, x1, x2⟩ := hU.nn.cells; go_simp)) ?_
  refine PickOk.value (d := some 65) (v := .slice C n c) rfl rfl (by kernel_rfl) (fun U hU => (by go_simp)) ?_
  simp only [PickOk, Act.put, List.setIfInBounds_toArray, List.set_cons_zero, List.set_cons_succ]
  refine wpAnyH_one (i := 4) (by kernel_rfl) rfl (by kernel_rfl) ?_
  intro K hK
  unfold Oper.wp
  go_simp
  refine (C1.out _ hS.bel).mono ?_; rintro e w7 ⟨rfl, hb7⟩
  have hS7 := hS.later hb7
  refine hK _ _ hS7 (fun _ => ?_)
  clear hK K hS hb7
  refine wpAnyH_one (i := 7) (by kernel_rfl) rfl (by kernel_rfl) ?_
  intro K hK
  unfold Oper.wp
  go_simp
  refine (C2.out _ hS7.bel).mono ?_; rintro e w8 ⟨rfl, hb8⟩
  have hS8 := hS7.later hb8
  refine hK _ _ hS8 (fun _ => ?_)
  clear hK K hS7 hb8
  refine wpAnyH_pick (by kernel_rfl) Only.panic (w := w8) hS8 [8, 9, 10, 11, 12, 13, 14, 15, 16, 17, 18] 0 _ _ (by kernel_rfl) ?_
  refine PickOk.value (d := some 67) (v := .bool true) rfl rfl (by kernel_rfl) (fun U hU => (by cases x <;> go_simp)) ?_
  refine PickOk.value (d := some 68) (v := .bool true) rfl rfl (by kernel_rfl) (fun U hU => (by go_simp)) ?_
  refine PickOk.value (d := some 69) (v := .bool true) rfl rfl (by kernel_rfl) (fun U hU => (by go_simp)) ?_
  refine PickOk.value (d := some 70) (v := .bool true) rfl rfl (by kernel_rfl) (fun U hU => (by go_simp)) ?_
  refine PickOk.value (d := some 71) (v := .bool true) rfl rfl (by kernel_rfl) (fun U hU => (by go_simp)) ?_
  refine PickOk.value (d := some 72) (v := .bool true) rfl rfl (by kernel_rfl) (fun U hU => (by go_simp)) ?_
  refine PickOk.value (d := some 73) (v := .agg #[.int .i64 mk, .string mn, .string mv]) rfl rfl (by kernel_rfl) (fun U hU => (by obtain ⟨x0, x1, x2⟩ := hU.bb.cells; go_simp)) ?_
  refine PickOk.value (d := some 74) (v := .agg #[.int .i64 mk, .string mn, .string mv]) rfl rfl (by kernel_rfl) (fun U hU => (by obtain ⟨x0, x1, x2⟩ := hU.mm.cells; go_simp)) ?_
  refine PickOk.value (d := some 75) (v := .bool true) rfl rfl (by kernel_rfl) (fun U hU => (by have hel := run_equal_mat U mk mn mv; go_simp)) ?_
  refine PickOk.value (d := some 76) (v := .bool true) rfl rfl (by kernel_rfl) (fun U hU => (by go_simp)) ?_
  refine PickOk.value (d := some 4) (v := .bool true) rfl rfl (by kernel_rfl) (fun U hU => (by go_simp)) ?_
  simp only [PickOk, Act.put, List.setIfInBounds_toArray, List.set_cons_zero, List.set_cons_succ]
  refine wpAnyH_done (by kernel_rfl) ?_ _
  refine Only.next ?_
  have B8 := Lib.hid hS8.bel
  clear hS8
  go_wp2_with fail
  go_ret
  exact ⟨rfl, B8.out⟩
theorem matchNot_walk {H : Type} {enc : TypeId × Value → H} {r : Reach} {b0 : Nat} {v : Value} {d : DataW H} {p : List MemPlace} (w : World)
    (hv : Value.okWide Try.prog w r b0 32 v) (h : DataW.Trod enc Try.prog w 0 (fun _ => true) true 32 v d p)
    (C : Option Addr) (n c : Nat) (f : Nat → Lab) (hn : n ≤ maxLen) (_hz : ∀ i, i < n → (f i).1.size ≤ maxLen ∧ (f i).2.size ≤ maxLen) (hl : LabRow w C n f) (_hx : C = none → n = 0 ∧ c = 0) (_hq : n ≤ c) :
    Calls Try.prog 5 #[v, .slice C n c] w fun e w' => e = .returned (.bool true) ∧ Below w.heap.size w w' := by
  obtain ⟨m, rfl, _, _⟩ := open_mat hv h
  exact matchNot_walk0 w m.k m.n m.v C n c f hn hl
end Go.Proofs.Ytcdlkiephdghlaa
