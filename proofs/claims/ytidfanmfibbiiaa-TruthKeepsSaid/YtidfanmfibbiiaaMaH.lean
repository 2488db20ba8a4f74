/-
  Samples: those that came in, those of the call's own, and what the references Same, Between and Sorted come to.
-/
import Derived.Test.YtidfanmfibbiiaaMaF
import Derived.Test.YtidfanmfibbiiaaPairs
import Derived.Laws.StructEq
namespace Go.Proofs.Ytidfanmfibbiiaa
open Go.RowKit
set_option maxRecDepth 100000 in
theorem open_sams {H : Type} {enc : TypeId × Value → H} {r : Reach} {b0 : Nat} {spare : Nat → Bool} {held : Bool} {v : Value} {d : DataW H} {p : List MemPlace} {w : World}
    (hv : Value.okWide Try.prog w r b0 46 v) (h : DataW.Trod enc Try.prog w 0 spare held 46 v d p) :
    ∃ (A : Option Addr) (n c : Nat) (s : Nat → Sam), v = .slice A n c ∧ n ≤ maxLen ∧ Row 2 (sx s) w A n := by
  obtain ⟨A, n, c, f, rfl, hn, hA⟩ := open_pairs (k0 := .i64) (k1 := .u64) Try.underlying46 Try.underlying51 Try.underlying2 Try.underlying37 rfl rfl rfl rfl rfl hv h
  refine ⟨A, n, c, fun i => ⟨(f i).1, (f i).2⟩, rfl, hn, fun hpos => ?_⟩
  obtain ⟨ad, e, hlt, hc⟩ := hA hpos
  refine ⟨ad, e, hlt, fun i hi j hj => ?_⟩
  obtain ⟨h0, h1, _, _⟩ := hc i hi
  rcases (show j = 0 ∨ j = 1 by omega) with rfl | rfl
  · exact h0
  · exact h1
set_option maxRecDepth 100000 in
theorem pair_get (x : Nat → Nat → Value) : ∀ (L : List Nat) (i j : Nat), i < L.length → j < 2 → (L.flatMap fun i => [x i 0, x i 1])[i * 2 + j]? = some (x (L.getD i 0) j)
  | a :: L, 0, j, _, hj => by
    rcases (show j = 0 ∨ j = 1 by omega) with rfl | rfl <;> rfl
  | a :: L, i + 1, j, h, hj => by
    have ih := pair_get x L i j (by simpa using h) hj
    have e : (a :: L).flatMap (fun i => [x i 0, x i 1]) = x a 0 :: x a 1 :: L.flatMap (fun i => [x i 0, x i 1]) := rfl
    rw [e, show (i + 1) * 2 + j = i * 2 + j + 1 + 1 from by omega]
    exact ih
set_option maxRecDepth 100000 in
theorem own_sams {w : World} {base e : Nat} {v : Value} {s : Nat → Sam} {L : List Nat} (h : w.ownsRow base e 2 v L.length (L.flatMap fun i => [sx s i 0, sx s i 1])) :
    ∃ A c, v = .slice A L.length c ∧ Row 2 (sx (fun j => s (L.getD j 0))) w A L.length := by
  rcases h.2 with ⟨rfl, h0⟩ | ⟨g, cap, cur, rfl, hb, hg, hc, _⟩
  · exact ⟨none, 0, by rw [h0], fun hn => by omega⟩
  · refine ⟨some ⟨g, 0, none⟩, cap, rfl, fun _ => ⟨⟨g, 0, none⟩, rfl, (Array.getElem?_eq_some_iff.1 hg).1, fun i hi j hj => ?_⟩⟩
    rw [Addr.add_lit, Nat.zero_add, World.ownsRow.cellAt h _ (by omega), pair_get (sx s) L i j hi hj]
    rfl
set_option maxRecDepth 100000 in
theorem run_part_i {P : Program} (w : World) (e : TypeId) (k : IntKind) (he : P.underlying e = some (.int k)) (cs : Array Value) (j : Nat) (v : Value) (hv : cs[j]? = some v) : (part e cs j).run P w = .ok v w := by
  have hagg : (isAgg e).run P w = .ok false w := by
    unfold isAgg
    rw [Sem.run_bind, run_underlying he w]
    simp
  simp [part, Sem.run_bind, hagg, hv]
set_option maxRecDepth 100000 in
theorem sam_fields : Try.prog.underlying 51 = some (.struct (Try.prog.fieldsOf 51)) := by kernel_rfl
set_option maxRecDepth 100000 in
theorem run_equal_sam (w : World) (x y : Int) : (Op.equalIn 10000 51 (.agg #[.int .i64 x, .int .u64 y]) (.agg #[.int .i64 x, .int .u64 y])).run Try.prog w = .ok true w := by
  rw [run_equalIn_struct w 9999 51 _ _ sam_fields (by kernel_rfl)]
  have hf : (Try.prog.fieldsOf 51).toList = [⟨"T", 2, 0, false, "", "", 0⟩, ⟨"V", 37, 1, false, "", "", 8⟩] := by kernel_rfl
  rw [hf]
  have p0 := run_part_i (P := Try.prog) w 2 _ Try.underlying2 #[.int .i64 x, .int .u64 y] 0 (.int .i64 x) rfl
  have p1 := run_part_i (P := Try.prog) w 37 _ Try.underlying37 #[.int .i64 x, .int .u64 y] 1 (.int .u64 y) rfl
  have e0 := run_equalIn_int (P := Try.prog) w 9998 2 .i64 .i64 x x Try.underlying2
  have e1 := run_equalIn_int (P := Try.prog) w 9998 37 .u64 .u64 y y Try.underlying37
  simp only [Op.eqFields, ne_eq, String.reduceEq, not_false_eq_true, if_true, Sem.run_bind, p0, e0, Result.andThen_ok]
  simp [Sem.run_bind, p1, e1]
set_option maxRecDepth 100000 in
theorem below_drewN {w W : World} (h : Below w.heap.size w W) (n : Nat) : Below w.heap.size w (W.drewN n) := h.grown (DrewOf.grown ⟨n, rfl⟩ none) h.size (fun r e => by cases e)
set_option maxRecDepth 100000 in
set_option maxHeartbeats 1000000 in
theorem rSamS_any (A B : Option Addr) (n c d : Nat) (hn : n ≤ 1000000) (s : Nat → Sam) (w : World) (hA : Row 2 (sx s) w A n) (hB : Row 2 (sx s) w B n) :
    Calls Try.prog 52 #[.slice A n c, .slice B n d] w fun e w' => e = .returned (.bool true) ∧ Below w.heap.size w w' := by
  have HA := Lib.hid hA; have HB := Lib.hid hB; clear hA hB
  go_enter Try.func52, Try.ntmps52
  go_wp2_with fail
  go_loopw [5] (fun i wr => ∃ k : Nat, k ≤ n ∧ i = .int .i64 k ∧ Below w.heap.size w wr) (fun i _ => n - (intOf i).toNat)
  case atStart => exact ⟨0, by omega, rfl, Below.refl _ _⟩
  case round =>
    obtain ⟨k, hk, rfl, hb⟩ := hrel
    have HBL := Lib.hid hb; clear hb
    by_cases hlt : k < n
    · obtain ⟨ad, rfl, c0, c1⟩ := HA.out.at_ HBL.out hlt
      obtain ⟨bd, rfl, e0, e1⟩ := HB.out.at_ HBL.out hlt
      have x0 := c0 (by omega); have x1 := c1 1 (by omega) (by omega)
      have y0 := e0 (by omega); have y1 := e1 1 (by omega) (by omega)
      have v0 : sx s k 0 = .int .i64 (s k).t := rfl
      have v1 : sx s k 1 = .int .u64 (s k).v := rfl
      rw [v0] at x0 y0; rw [v1] at x1 y1
      have i1 : (k : Int) < (n : Int) := by omega
      have i0 : (0 : Int) ≤ (k : Int) := by omega
      clear c0 c1 e0 e1 v0 v1
      generalize (s k).t = t at *
      generalize (s k).v = u at *
      have hel := fun W => run_equal_sam W t u
      have heg : Try.prog.eqGuardType Try.prog.depth 51 = false := by kernel_rfl
      go_wp2_with fail
      go_quiet (fail)
      go_wp2_with fail
      go_roundw
      case rel => exact ⟨k + 1, by omega, by go_num, below_drewN HBL.out _⟩
      case measure => simp [intOf]; omega
    · obtain rfl : k = n := by omega
      have i1 : ¬ (k : Int) < (k : Int) := by omega
      go_wp2_with fail
      go_ret
      exact ⟨rfl, HBL.out⟩
end Go.Proofs.Ytidfanmfibbiiaa
