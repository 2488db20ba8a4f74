/-
  Samples: a slice of them, and what match.Sorted and the reference's Same come to.
-/
import Derived.Test.YtfgcgjogaaofdaaGreatDoorStructs
import Derived.Test.YtfgcgjogaaofdaaGreatDoorBitG
import Derived.Laws.StructEq
import Derived.BigQuiet
namespace Go.Proofs.YtfgcgjogaaofdaaGreatDoor
open Go.RowKit
/-- a sample -/
structure Sam where
  t : Int
  v : Int
def sx (s : Nat → Sam) (i j : Nat) : Value := if j = 0 then .int .i64 (s i).t else .int .u64 (s i).v
/-- a slice: what its cells hold, so many to an element -/
def Row (k : Nat) (x : Nat → Nat → Value) (w : World) (A : Option Addr) (n : Nat) : Prop :=
  0 < n → ∃ ad, A = some ad ∧ ad.block < w.heap.size ∧ ∀ i, i < n → ∀ j, j < k → w.cell? (ad.add (i * k + j)) = some (x i j)
theorem addr_block' (a : Addr) (j : Nat) : (a.add j).block = a.block := by unfold Addr.add; split <;> rfl
theorem Row.at_ {k : Nat} {x : Nat → Nat → Value} {w w2 : World} {A : Option Addr} {n : Nat} (h : Row k x w A n) (hb : Below w.heap.size w w2) {i : Nat} (hi : i < n) :
    ∃ ad, A = some ad ∧ (0 < k → w2.cell? (ad.add (i * k)) = some (x i 0)) ∧ ∀ j, j < k → 0 < j → w2.cell? ⟨(ad.add (i * k)).block, (ad.add (i * k)).off + j, none⟩ = some (x i j) := by
  obtain ⟨ad, e, hlt, hc⟩ := h (by omega)
  refine ⟨ad, e, fun hk => (hb.cell (by rw [addr_block']; exact hlt)).trans (hc i hi 0 hk), fun j hj h0 => ?_⟩
  obtain ⟨j, rfl⟩ : ∃ j', j = j' + 1 := ⟨j - 1, by omega⟩
  have e2 : (ad.add (i * k)).add (j + 1) = ⟨(ad.add (i * k)).block, (ad.add (i * k)).off + (j + 1), none⟩ := rfl
  rw [← e2, Go.Deep.add_add]
  exact (hb.cell (by rw [addr_block']; exact hlt)).trans (hc i hi _ hj)
theorem Row.later {k : Nat} {x : Nat → Nat → Value} {w w2 : World} {A : Option Addr} {n : Nat} (h : Row k x w A n) (hb : Below w.heap.size w w2) : Row k x w2 A n := fun hn => by
  obtain ⟨ad, e, hlt, hc⟩ := h hn
  exact ⟨ad, e, Nat.lt_of_lt_of_le hlt hb.size, fun i hi j hj => (hb.cell (by rw [addr_block']; exact hlt)).trans (hc i hi j hj)⟩
namespace Ma
/-- do times rise? -/
def rising (s : Nat → Sam) (n : Nat) : Bool := (List.range (n - 1)).all fun i => decide ((s i).t < (s (i + 1)).t)
theorem rising_no {s : Nat → Sam} {n i : Nat} (h : i + 1 < n) (hi : ¬ (s i).t < (s (i + 1)).t) : rising s n = false := by
  unfold rising
  rw [List.all_eq_false]
  exact ⟨i, List.mem_range.2 (by omega), by simpa using hi⟩
theorem rising_yes {s : Nat → Sam} {n : Nat} (h : ∀ i, i + 1 < n → (s i).t < (s (i + 1)).t) : rising s n = true := by
  unfold rising
  rw [List.all_eq_true]
  exact fun i hi => decide_eq_true (h i (by have := List.mem_range.1 hi; omega))
end Ma
set_option maxRecDepth 100000 in
set_option maxHeartbeats 1000000 in
theorem Sorted_any (A : Option Addr) (n c : Nat) (hn : n ≤ 1000000) (s : Nat → Sam) (w : World) (hA : Row 2 (sx s) w A n) :
    Calls Tryz.prog 12 #[.slice A n c] w fun e w' => e = .returned (.bool (Ma.rising s n)) ∧ DrewOf w w' := by
  have HA := Lib.hid hA; clear hA
  go_enter Tryz.func12, Tryz.ntmps12
  go_wp2_with fail
  go_loopw [3] (fun i wr => ∃ (k : Nat), 1 ≤ k ∧ i = .int .i64 k ∧ (∀ j, j + 1 < k → (s j).t < (s (j + 1)).t) ∧ DrewOf w wr) (fun i _ => n - (intOf i).toNat)
  case atStart => exact ⟨1, Nat.le_refl _, rfl, fun j hj => by omega, ⟨0, rfl⟩⟩
  case round =>
    obtain ⟨k, hk, rfl, hall, q, rfl⟩ := hrel
    have HE := Lib.hid hall; clear hall
    by_cases hlt : k < n
    · obtain ⟨ad, rfl, c0, -⟩ := HA.out.at_ (Below.refl _ _) hlt
      obtain ⟨ad2, e, c1, -⟩ := HA.out.at_ (Below.refl _ _) (show k - 1 < n by omega)
      cases e
      have e0 := c0 (by omega)
      have e1 := c1 (by omega)
      have x0 : sx s k 0 = .int .i64 (s k).t := rfl
      have x1 : sx s (k - 1) 0 = .int .i64 (s (k - 1)).t := rfl
      rw [x0] at e0; rw [x1] at e1
      have i1 : (k : Int) < (n : Int) := by omega
      have i0 : (0 : Int) ≤ (k : Int) := by omega
      have i2 : IntKind.i64.wrap ((k : Int) - 1) = ((k - 1 : Nat) : Int) := by rw [IntWalk.i64_in _ (by omega)]; omega
      have i3 : wrap64 ((k : Int) - 1) = ((k - 1 : Nat) : Int) := by rw [IntWalk.wrap64_in _ (by omega)]; omega
      have i4 : ((k - 1 : Nat) : Int) < (n : Int) := by omega
      have i5 : (0 : Int) ≤ ((k - 1 : Nat) : Int) := by omega
      have HK : Hid (k - 1 + 1 = k) := Lib.hid (by omega)
      clear c0 c1 x0 x1
      by_cases hf : (s (k - 1)).t < (s k).t
      · have d0 : decide ((s k).t ≤ (s (k - 1)).t) = false := by simp; omega
        have HF := Lib.hid hf; clear hf
        go_wp2_with fail
        go_quiet (fail)
        go_wp2_with fail
        go_roundw
        case rel => exact ⟨k + 1, by omega, by go_num, fun j hj => (by
          rcases Nat.lt_or_ge (j + 1) k with h1 | h1
          · exact HE.out j h1
          · obtain rfl : j = k - 1 := by omega
            rw [HK.out]; exact HF.out), _, rfl⟩
        case measure => simp [intOf]; omega
      · have d0 : decide ((s k).t ≤ (s (k - 1)).t) = true := by simp; omega
        have HR : Hid (Ma.rising s n = false) := Lib.hid (Ma.rising_no (i := k - 1) (by omega) (by rw [show k - 1 + 1 = k from by omega]; exact hf))
        clear hf
        go_wp2_with fail
        go_quiet (fail)
        go_wp2_with fail
        go_ret
        exact ⟨by rw [HR.out]; rfl, _, World.drewN_drewN _ _ _⟩
    · have HR : Hid (Ma.rising s n = true) := Lib.hid (Ma.rising_yes (fun i hi => HE.out i (by omega)))
      have i1 : ¬ (k : Int) < (n : Int) := by omega
      go_wp2_with fail
      go_ret
      exact ⟨by rw [HR.out]; rfl, _, rfl⟩
set_option maxRecDepth 100000 in
theorem open_sams {H : Type} {enc : TypeId × Value → H} {r : Reach} {b0 : Nat} {spare : Nat → Bool} {held : Bool} {v : Value} {d : DataW H} {p : List MemPlace} {w : World}
    (hv : Value.okWide Tryz.prog w r b0 22 v) (h : DataW.Trod enc Tryz.prog w 0 spare held 22 v d p) :
    ∃ (A : Option Addr) (n c : Nat) (s : Nat → Sam), v = .slice A n c ∧ n ≤ maxLen ∧ Row 2 (sx s) w A n ∧ ∀ i, i < n → (-9223372036854775808 ≤ (s i).t ∧ (s i).t < 9223372036854775808) ∧ 0 ≤ (s i).v ∧ (s i).v < 18446744073709551616 := by
  obtain ⟨A, n, c, f, rfl, hn, hA⟩ := open_pairs (k0 := .i64) (k1 := .u64) Tryz.underlying22 Tryz.underlying30 Tryz.underlying2 Tryz.underlying28 rfl rfl rfl rfl rfl hv h
  refine ⟨A, n, c, fun i => ⟨(f i).1, (f i).2⟩, rfl, hn, fun hpos => ?_, fun i hi => ?_⟩
  · obtain ⟨ad, e, hlt, hc⟩ := hA hpos
    refine ⟨ad, e, hlt, fun i hi j hj => ?_⟩
    obtain ⟨h0, h1, _, _⟩ := hc i hi
    rcases (show j = 0 ∨ j = 1 by omega) with rfl | rfl
    · exact h0
    · exact h1
  · obtain ⟨ad, e, hlt, hc⟩ := hA (by omega)
    obtain ⟨_, _, h2, h3⟩ := hc i hi
    show (-9223372036854775808 ≤ (f i).1 ∧ (f i).1 < 9223372036854775808) ∧ 0 ≤ (f i).2 ∧ (f i).2 < 18446744073709551616
    generalize (f i).1 = a at *
    generalize (f i).2 = b at *
    simp [Lit.wf, IntKind.min, IntKind.max, IntKind.signed, IntKind.bits] at h2 h3; omega
theorem run_part_i {P : Program} (w : World) (e : TypeId) (k : IntKind) (he : P.underlying e = some (.int k)) (cs : Array Value) (j : Nat) (v : Value) (hv : cs[j]? = some v) : (part e cs j).run P w = .ok v w := by
  have hagg : (isAgg e).run P w = .ok false w := by
    unfold isAgg
    rw [Sem.run_bind, run_underlying he w]
    simp
  simp [part, Sem.run_bind, hagg, hv]
theorem sam_fields : Tryz.prog.underlying 30 = some (.struct (Tryz.prog.fieldsOf 30)) := by kernel_rfl
theorem run_equal_sam (w : World) (x y x2 y2 : Int) (b : Bool) (hb : b = (decide (x = x2) && decide (y = y2))) : (Op.equalIn 10000 30 (.agg #[.int .i64 x, .int .u64 y]) (.agg #[.int .i64 x2, .int .u64 y2])).run Tryz.prog w = .ok b w := by
  rw [run_equalIn_struct w 9999 30 _ _ sam_fields (by kernel_rfl)]
  have hf : (Tryz.prog.fieldsOf 30).toList = [⟨"T", 2, 0, false, "", "", 0⟩, ⟨"V", 28, 1, false, "", "", 8⟩] := by kernel_rfl
  rw [hf]
  have p0 := run_part_i (P := Tryz.prog) w 2 _ Tryz.underlying2 #[.int .i64 x, .int .u64 y] 0 (.int .i64 x) rfl
  have p1 := run_part_i (P := Tryz.prog) w 28 _ Tryz.underlying28 #[.int .i64 x, .int .u64 y] 1 (.int .u64 y) rfl
  have q0 := run_part_i (P := Tryz.prog) w 2 _ Tryz.underlying2 #[.int .i64 x2, .int .u64 y2] 0 (.int .i64 x2) rfl
  have q1 := run_part_i (P := Tryz.prog) w 28 _ Tryz.underlying28 #[.int .i64 x2, .int .u64 y2] 1 (.int .u64 y2) rfl
  have e0 := run_equalIn_int (P := Tryz.prog) w 9998 2 .i64 .i64 x x2 Tryz.underlying2
  have e1 := run_equalIn_int (P := Tryz.prog) w 9998 28 .u64 .u64 y y2 Tryz.underlying28
  simp only [Op.eqFields, ne_eq, String.reduceEq, not_false_eq_true, if_true, Sem.run_bind, p0, q0, e0, Result.andThen_ok]
  subst hb
  by_cases hx : x = x2
  · subst hx
    simp [Sem.run_bind, p1, q1, e1]
    by_cases hy : y = y2 <;> simp [hy]
  · have hx2 : (x == x2) = false := by simpa using hx
    simp [hx, hx2]
set_option maxRecDepth 100000 in
set_option maxHeartbeats 1000000 in
theorem rSam_any (A B : Option Addr) (n m c d : Nat) (hn : n ≤ 1000000) (s s2 : Nat → Sam) (w : World) (hA : Row 2 (sx s) w A n) (hB : Row 2 (sx s2) w B m) (o : Bool) (ho : o = true ↔ (n = m ∧ ∀ i, i < n → s i = s2 i)) :
    Calls Tryz.prog 9 #[.slice A n c, .slice B m d] w fun e w' => e = .returned (.bool o) ∧ DrewOf w w' := by
  have HA := Lib.hid hA; have HB := Lib.hid hB; have HO := Lib.hid ho; clear hA hB ho
  by_cases hnm : n = m
  · subst hnm
    have d0 : (!((n : Int) == (n : Int))) = false := by simp
    go_enter Tryz.func9, Tryz.ntmps9
    go_wp2_with fail
    go_loopw [5] (fun i wr => ∃ k : Nat, k ≤ n ∧ i = .int .i64 k ∧ DrewOf w wr ∧ ∀ j, j < k → s j = s2 j) (fun i _ => n - (intOf i).toNat)
    case atStart => exact ⟨0, by omega, rfl, ⟨0, rfl⟩, fun j hj => by omega⟩
    case round =>
      obtain ⟨k, hk, rfl, ⟨q, rfl⟩, hall⟩ := hrel
      have HE := Lib.hid hall; clear hall
      by_cases hlt : k < n
      · obtain ⟨ad, rfl, c0, c1⟩ := HA.out.at_ (Below.refl _ _) hlt
        obtain ⟨bd, rfl, e0, e1⟩ := HB.out.at_ (Below.refl _ _) hlt
        have x0 := c0 (by omega); have x1 := c1 1 (by omega) (by omega)
        have y0 := e0 (by omega); have y1 := e1 1 (by omega) (by omega)
        have v0 : sx s k 0 = .int .i64 (s k).t := rfl
        have v1 : sx s k 1 = .int .u64 (s k).v := rfl
        have u0 : sx s2 k 0 = .int .i64 (s2 k).t := rfl
        have u1 : sx s2 k 1 = .int .u64 (s2 k).v := rfl
        rw [v0] at x0; rw [v1] at x1; rw [u0] at y0; rw [u1] at y1
        have i1 : (k : Int) < (n : Int) := by omega
        have i0 : (0 : Int) ≤ (k : Int) := by omega
        have hel := fun W b hb => run_equal_sam W (s k).t (s k).v (s2 k).t (s2 k).v b hb
        have heg : Tryz.prog.eqGuardType Tryz.prog.depth 30 = false := by kernel_rfl
        clear c0 c1 e0 e1 v0 v1 u0 u1
        by_cases heq : s k = s2 k
        · have hel2 := fun W => hel W true (by rw [heq]; simp)
          have HEQ := Lib.hid heq
          clear hel heq
          generalize (s k).t = t at *
          generalize (s k).v = u at *
          generalize (s2 k).t = t2 at *
          generalize (s2 k).v = u2 at *
          go_wp2_with fail
          go_quiet (fail)
          go_wp2_with fail
          go_roundw
          case rel => exact ⟨k + 1, by omega, by go_num, ⟨_, rfl⟩, fun j hj => (by
            rcases Nat.lt_or_ge j k with h1 | h1
            · exact HE.out j h1
            · obtain rfl : j = k := by omega
              exact HEQ.out)⟩
          case measure => simp [intOf]; omega
        · have hel2 := fun W => hel W false (by
            have : ¬ ((s k).t = (s2 k).t ∧ (s k).v = (s2 k).v) := fun h => heq (by
              cases h1 : s k; cases h2 : s2 k; rw [h1, h2] at h; simp only at h; rw [h.1, h.2])
            by_cases ha : (s k).t = (s2 k).t
            · have hb : ¬ (s k).v = (s2 k).v := fun e => this ⟨ha, e⟩
              simp [hb]
            · simp [ha])
          have HR : Hid (o = false) := Lib.hid (by
            cases o with
            | false => rfl
            | true => exact absurd ((HO.out.1 rfl).2 k hlt) heq)
          clear hel heq
          generalize (s k).t = t at *
          generalize (s k).v = u at *
          generalize (s2 k).t = t2 at *
          generalize (s2 k).v = u2 at *
          go_wp2_with fail
          go_quiet (fail)
          go_wp2_with fail
          go_ret
          exact ⟨by rw [HR.out]; rfl, _, World.drewN_drewN _ _ _⟩
      · obtain rfl : k = n := by omega
        have i1 : ¬ (k : Int) < (k : Int) := by omega
        have HR : Hid (o = true) := Lib.hid (HO.out.2 ⟨by trivial, HE.out⟩)
        go_wp2_with fail
        go_ret
        exact ⟨by rw [HR.out]; rfl, _, rfl⟩
  · have d0 : (!((n : Int) == (m : Int))) = true := by simp; omega
    have HR : Hid (o = false) := Lib.hid (by
      cases o with
      | false => rfl
      | true => exact absurd (HO.out.1 rfl).1 hnm)
    go_enter Tryz.func9, Tryz.ntmps9
    go_wp2_with fail
    go_ret
    exact ⟨by rw [HR.out]; rfl, 0, rfl⟩
end Go.Proofs.YtfgcgjogaaofdaaGreatDoor
