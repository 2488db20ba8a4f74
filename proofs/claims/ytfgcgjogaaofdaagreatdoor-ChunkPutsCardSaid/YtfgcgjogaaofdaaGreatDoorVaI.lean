import Derived.Test.YtfgcgjogaaofdaaGreatDoorVaB
import Derived.Test.YtfgcgjogaaofdaaGreatDoorStructs
/-
  What Cost and All of package value come to.
-/
namespace Go.Proofs.YtfgcgjogaaofdaaGreatDoor
open Go.RowKit

/-- the state behind the first k values; their bits -/
def Va.after (f : Nat → Nat) : Nat → Va.S
  | 0 => ⟨0, 0, 64, 0⟩
  | k + 1 => (Va.after f k).next (f k)
def Va.bits (f : Nat → Nat) : Nat → List Bool
  | 0 => []
  | k + 1 => Va.bits f k ++ (Va.after f k).code (f k)
theorem Va.bits_length (f : Nat → Nat) : ∀ k, (Va.bits f k).length ≤ 78 * k
  | 0 => by simp [Va.bits]
  | k + 1 => by
    have := Va.bits_length f k
    have := Va.cost_le (s := Va.after f k) (f k)
    simp only [Va.bits, List.length_append, Va.S.code_length]; omega
theorem Va.after_ok (f : Nat → Nat) (n : Nat) (hn : n ≤ 100000) (hf : ∀ i, i < n → f i < 18446744073709551616) : ∀ k, k ≤ n → (Va.after f k).ok ∧ (Va.after f k).n = k
  | 0, _ => ⟨⟨by show 0 < _; omega, by show 0 ≤ _; omega, .inl ⟨rfl, rfl⟩⟩, rfl⟩
  | k + 1, h => by
    obtain ⟨h1, h2⟩ := Va.after_ok f n hn hf k (by omega)
    have := Va.next_ok h1 (f k) (hf k (by omega)) (by rw [h2]; omega)
    exact ⟨this.1, by rw [show Va.after f (k + 1) = (Va.after f k).next (f k) from rfl, this.2.2, h2]⟩
theorem IntRow.u64_lt {W : World} {A : Option Addr} {n : Nat} {f : Nat → Int} (h : IntRow W A n .u64 f) {i : Nat} (hi : i < n) : 0 ≤ f i ∧ f i < 18446744073709551616 := by
  obtain ⟨ad, _, _, hc⟩ := h (by omega)
  have := (hc i hi).2
  generalize f i = t at *
  simp [Lit.wf, IntKind.min, IntKind.max, IntKind.signed, IntKind.bits] at this; omega
set_option maxRecDepth 100000 in
set_option maxHeartbeats 1000000 in
theorem vAll_any (w : World) (hT : TabOk w) (A : Option Addr) (len cap : Nat) (f : Nat → Nat) (hlen : len ≤ 1000) (hA : IntRow w A len .u64 (fun i => (f i : Int))) :
    Calls Tryz.prog 59 #[.slice A len cap] w fun e w' => e = .returned (.string (Bit.text (Va.bits f len))) ∧ Below w.heap.size w w' := by
  have hfl : ∀ i, i < len → f i < 18446744073709551616 := fun i hi => by have := (hA.u64_lt hi).2; omega
  have haf := Va.after_ok f len (by omega) hfl
  have HAF := Lib.hid haf; have HFL := Lib.hid hfl
  have HA := Lib.hid hA; have HT := Lib.hid hT; clear hA hT haf hfl
  have hval : ∀ s : Va.S, s.val = .agg #[.int .i64 s.n, .int .u64 s.v, .int .i64 s.l, .int .i64 s.t] := fun _ => rfl
  go_enter Tryz.func59, Tryz.ntmps59
  go_wp2_with fail
  refine (NewWriter_any _).mono ?_; rintro e w2 ⟨rfl, hw2⟩
  have hwr : WrAt w2 w.heap.size w.heap.size none 0 [] := by rw [hw2]; exact WrAt.new w _
  have hb2 : Below w.heap.size w w2 := by rw [hw2]; exact (Below.refl _ _).alloc (Nat.le_refl _) _
  have HWr := Lib.hid hwr; have HB2 := Lib.hid hb2; clear hwr hb2 hw2
  go_wp2_with fail
  go_loopw [10] (fun i wr => ∃ (k : Nat) (A2 : Option Addr) (cap2 : Nat), k ≤ len ∧ i = .int .i64 k ∧ WrAt wr w.heap.size w.heap.size A2 cap2 (Va.bits f k) ∧ VStAt wr w2.heap.size (Va.after f k) ∧ Below w.heap.size w wr) (fun i _ => len - (intOf i).toNat)
  case atStart => exact ⟨0, none, 0, by omega, rfl, HWr.out.later ((Below.refl _ _).alloc (Nat.le_refl _) _), RowIs.one _ _, HB2.out.alloc HB2.out.size _⟩
  case round =>
    obtain ⟨k, A2, cap2, hk, rfl, hw, hs, hb⟩ := hrel
    have HW := Lib.hid hw; have HB := Lib.hid hb; have HS := Lib.hid hs; clear hw hb hs
    have hB := Va.bits_length f k
    have hgp : w.heap.size < w2.heap.size := HWr.out.lt
    by_cases hlt : k < len
    · obtain ⟨ad, rfl, c0, wf0⟩ := HA.out.at_ HB.out hlt
      have hok := HAF.out k (by omega)
      have hfk := HFL.out k hlt
      have HTk : Hid (TabOk wr) := Lib.hid (HT.out.later HB.out)
      have hput := vPut_any w.heap.size w.heap.size A2 cap2 (Va.bits f k) (by omega) (Va.after f k) hok.1 (by rw [hok.2]; omega) (f k) hfk wr.drew (fun j hj => HTk.out j hj) HW.out.drew (by have := HB.out.size; exact this)
      have hbn : Va.bits f (k + 1) = Va.bits f k ++ (Va.after f k).code (f k) := rfl
      have han : Va.after f (k + 1) = (Va.after f k).next (f k) := rfl
      rw [← hbn, ← han] at hput
      generalize Va.after f k = s at *
      generalize hys : Va.after f (k + 1) = y at *
      rw [hval] at hput
      have HPUT := Lib.hid hput; have HYS := Lib.hid hys
      clear hput hok hfk hbn han hys
      obtain ⟨e0, e1, e2, e3⟩ := HS.out.cells
      go_wp2_with fail
      refine plain_still_tail 6 (by kernel_rfl) (by kernel_rfl) ?_
      simp only [List.take_succ_cons, List.take_zero, List.drop_succ_cons, List.drop_zero]
      repeat still_step
      refine wpStill_nil ?_
      go_wp2_with fail
      refine HPUT.out.mono ?_
      rintro e w3 ⟨rfl, A3, cap3, hw3, hN, hF⟩
      have hgl : w2.heap.size < wr.heap.size := HS.out.lt
      have hs3 : VStAt w3 w2.heap.size s := (hF.undrew.same _ hgl (vrow_not HW.out HS.out (by decide) (by omega))).trans HS.out
      have hb3 : Below w.heap.size w w3 := HB.out.trans (hF.undrew.below HB.out.size (putSet_base HW.out (Nat.le_refl _)))
      have hgr := grown_four w3 w2.heap.size 0 1 2 3 (.int .i64 y.n) (.int .u64 y.v) (.int .i64 y.l) (.int .i64 y.t)
      have HN := Lib.hid (hs3.set y)
      have HBN := Lib.hid (hb3.grown hgr hb3.size (fun r e => by cases e; omega))
      have HWN : Hid (WrAt ((((w3.setCell ⟨w2.heap.size, 0, none⟩ (.int .i64 y.n)).setCell ⟨w2.heap.size, 1, none⟩ (.int .u64 y.v)).setCell ⟨w2.heap.size, 2, none⟩ (.int .i64 y.l)).setCell ⟨w2.heap.size, 3, none⟩ (.int .i64 y.t)) w.heap.size w.heap.size A3 cap3 (Va.bits f (k + 1))) :=
        Lib.hid (RowAt.keep hw3 (hgr.block _ hw3.lt (by simp; omega)) (fun g hg => hgr.block _ (by subst hg; exact (row_block hw3.own rfl).2.1) (by
          have hne : g ≠ w2.heap.size := by subst hg; exact own_ne hw3.own hs3 (by decide)
          simp; omega)))
      obtain ⟨r0, r1, r2, r3⟩ := hs3.cells
      obtain ⟨f0, f1, f2, f3⟩ := hs3.free
      try rw [hval y]
      clear hs3 hb3 hw3 hN hF HW HS hgr
      go_wp2_with fail
      go_roundw
      case rel => exact ⟨k + 1, A3, cap3, by omega, by go_num, HWN.out, by rw [HYS.out]; exact HN.out, HBN.out⟩
      case measure => simp [intOf]; omega
    · obtain rfl : k = len := by omega
      go_wp2_with fail
      refine (Bytes_any _ HW.out).mono ?_; rintro e wx ⟨rfl, rfl⟩
      go_wp2_with fail
      go_ret
      exact ⟨rfl, HB.out⟩
end Go.Proofs.YtfgcgjogaaofdaaGreatDoor
/-
  Rows of values out of bits: the mathematics.
-/
namespace Go.Proofs.YtfgcgjogaaofdaaGreatDoor
open Go.RowKit
namespace Va

/-- how far k readings come: the state, the values, how many bits they took -/
def run (L : List Bool) : Nat → Option (S × List Nat × Nat)
  | 0 => some (⟨0, 0, 64, 0⟩, [], 0)
  | k + 1 => match run L k with
    | none => none
    | some (s, l, q) => match s.got (L.drop q) with
      | none => none
      | some t => some (s.next t, l ++ [t], q + s.cost t)
theorem run_succ {L : List Bool} {k : Nat} {s : S} {l : List Nat} {q : Nat} (h : run L k = some (s, l, q)) : run L (k + 1) = match s.got (L.drop q) with | none => none | some t => some (s.next t, l ++ [t], q + s.cost t) := by
  show (match run L k with | none => none | some (s, l, q) => match s.got (L.drop q) with | none => none | some t => some (s.next t, l ++ [t], q + s.cost t)) = _
  rw [h]
theorem run_none {L : List Bool} {k : Nat} (h : run L k = none) : ∀ n, k ≤ n → run L n = none
  | 0, hn => by obtain rfl : k = 0 := by omega
                exact h
  | n + 1, hn => by
    by_cases hk : k = n + 1
    · rw [← hk]; exact h
    · have := run_none h n (by omega)
      show (match run L n with | none => none | some (s, l, q) => match s.got (L.drop q) with | none => none | some t => some (s.next t, l ++ [t], q + s.cost t)) = _
      rw [this]
theorem after_congr {f g : Nat → Nat} : ∀ (k : Nat), (∀ i, i < k → f i = g i) → after f k = after g k ∧ bits f k = bits g k
  | 0, _ => ⟨rfl, rfl⟩
  | k + 1, h => by
    obtain ⟨h1, h2⟩ := after_congr k (fun i hi => h i (by omega))
    simp only [after, bits, h1, h2, h k (by omega)]
    exact ⟨trivial, trivial⟩
theorem getD_snoc (l : List Nat) (t : Nat) (i : Nat) (h : i < l.length) : (l ++ [t]).getD i 0 = l.getD i 0 := by
  simp [List.getD, List.getElem?_append, h]
theorem getD_last (l : List Nat) (t : Nat) : (l ++ [t]).getD l.length 0 = t := by simp [List.getD]
/-- what was read has just these bits -/
theorem run_some (L : List Bool) : ∀ (k : Nat), k ≤ 100000 → ∀ {s : S} {l : List Nat} {q : Nat}, run L k = some (s, l, q) →
    l.length = k ∧ s = after (fun i => l.getD i 0) k ∧ L = bits (fun i => l.getD i 0) k ++ L.drop q ∧ (bits (fun i => l.getD i 0) k).length = q ∧ k ≤ q ∧ q ≤ L.length ∧ (∀ t ∈ l, t < 18446744073709551616) ∧ s.ok ∧ s.n = k
  | 0, _, s, l, q, h => by
    simp only [run, Option.some.injEq, Prod.mk.injEq] at h
    obtain ⟨rfl, rfl, rfl⟩ := h
    have h0 := Va.after_ok (fun _ => 0) 0 (by omega) (fun i hi => by omega) 0 (Nat.le_refl _)
    exact ⟨rfl, rfl, rfl, rfl, Nat.le_refl _, Nat.zero_le _, fun t ht => by simp at ht, h0.1, rfl⟩
  | k + 1, hk, s, l, q, h => by
    cases h0 : run L k with
    | none => rw [run_none h0 (k + 1) (by omega)] at h; cases h
    | some x =>
      obtain ⟨s0, l0, q0⟩ := x
      rw [run_succ h0] at h
      obtain ⟨a1, a2, a3, a4, a5, a6, a7, a8, a9⟩ := run_some L k (by omega) h0
      cases hg : s0.got (L.drop q0) with
      | none => rw [hg] at h; cases h
      | some t =>
        rw [hg] at h
        simp only [Option.some.injEq, Prod.mk.injEq] at h
        obtain ⟨rfl, rfl, rfl⟩ := h
        obtain ⟨g1, g2, g3⟩ := S.got_some a8 hg
        rw [List.length_drop] at g2
        have hp := cost_pos (s := s0) t
        obtain ⟨c1, c2⟩ := after_congr (f := fun i => (l0 ++ [t]).getD i 0) (g := fun i => l0.getD i 0) k (fun i hi => getD_snoc l0 t i (by omega))
        have hl : (fun i => (l0 ++ [t]).getD i 0) k = t := by show (l0 ++ [t]).getD k 0 = t; rw [← a1]; exact getD_last l0 t
        have hno := next_ok a8 t g3 (by rw [a9]; omega)
        refine ⟨by simp [a1], ?_, ?_, ?_, by omega, by omega, ?_, hno.1, by rw [hno.2.2, a9]⟩
        · simp only [after, c1, ← a2, hl]
        · simp only [bits, c1, c2, ← a2, hl]
          rw [List.append_assoc, ← List.drop_drop, ← g1]
          exact a3
        · simp only [bits, c1, c2, ← a2, hl, List.length_append, a4, S.code_length]
        · intro u hu
          rcases List.mem_append.1 hu with hu | hu
          · exact a7 u hu
          · obtain rfl : u = t := by simpa using hu
            exact g3
theorem bits_more (f : Nat → Nat) (k : Nat) : ∀ n, k ≤ n → ∃ R, bits f n = bits f k ++ R := fun n h => by
  induction n with
  | zero => obtain rfl : k = 0 := by omega
            exact ⟨[], by simp⟩
  | succ n ih =>
    by_cases hk : k = n + 1
    · exact ⟨[], by simp [hk]⟩
    · obtain ⟨R, hR⟩ := ih (by omega)
      exact ⟨R ++ (after f n).code (f n), by simp [bits, hR]⟩
/-- what was put is read -/
theorem run_bits (f : Nat → Nat) (n : Nat) (hn : n ≤ 100000) (hf : ∀ i, i < n → f i < 18446744073709551616) (R : List Bool) : ∀ k, k ≤ n → run (bits f n ++ R) k = some (after f k, (List.range k).map f, (bits f k).length)
  | 0, _ => by simp [run, after, bits]
  | k + 1, h => by
    rw [run_succ (run_bits f n hn hf R k (by omega))]
    obtain ⟨R2, hR2⟩ := bits_more f (k + 1) n h
    have e : (bits f n ++ R).drop (bits f k).length = (after f k).code (f k) ++ (R2 ++ R) := by
      rw [hR2, bits, List.append_assoc, List.append_assoc, List.drop_left]
    rw [e, S.got_code (after_ok f n hn hf k (by omega)).1 _ (hf k (by omega))]
    simp only [after, bits, List.length_append, S.code_length, List.range_succ, List.map_append, List.map_cons, List.map_nil]
/-- the n values that bytes are -/
def read (b : ByteArray) (n : Int) : Option (List Nat) :=
  if n < 0 ∨ 10000 < n then none else
    match run (Bit.bits b) n.toNat with
    | none => none
    | some (_, l, q) => if Bit.clean ((Bit.bits b).drop q) then some l else none
theorem read_bits (f : Nat → Nat) (n : Nat) (hn : n ≤ 10000) (hf : ∀ i, i < n → f i < 18446744073709551616) : read (Bit.text (bits f n)) n = some ((List.range n).map f) := by
  obtain ⟨h1, h2, h3⟩ := text_end (bits f n)
  unfold read
  rw [if_neg (by omega), Int.toNat_natCast, Bit.text_bits, run_bits f n (by omega) hf _ n (Nat.le_refl _)]
  rw [← Bit.text_bits]
  show (if Bit.clean (List.drop (bits f n).length (Bit.bits (Bit.text (bits f n)))) = true then some ((List.range n).map f) else none) = _
  rw [h1]
  simp only [Bit.clean, List.length_replicate, h2, Bit.val_zeros]
  rfl
/-- nothing else is read -/
theorem read_some {b : ByteArray} {n : Int} {l : List Nat} (h : read b n = some l) : (l.length : Int) = n ∧ l.length ≤ 8 * b.size ∧ Bit.text (bits (fun i => l.getD i 0) l.length) = b ∧ ∀ t ∈ l, t < 18446744073709551616 := by
  unfold read at h
  by_cases hn : n < 0 ∨ 10000 < n
  · rw [if_pos hn] at h; cases h
  · rw [if_neg hn] at h
    cases hr : run (Bit.bits b) n.toNat with
    | none => rw [hr] at h; cases h
    | some x =>
      obtain ⟨s, l0, q⟩ := x
      rw [hr] at h
      simp only at h
      by_cases hc : Bit.clean ((Bit.bits b).drop q) = true
      · rw [if_pos hc] at h
        obtain rfl := Option.some.inj h
        obtain ⟨a1, a2, a3, a4, a5, a6, a7, _, _⟩ := run_some _ _ (by omega) hr
        rw [Bit.bits_length] at a6
        simp only [Bit.clean, Bool.and_eq_true, decide_eq_true_eq] at hc
        rw [List.length_drop, Bit.bits_length] at hc
        refine ⟨by omega, by omega, ?_, a7⟩
        rw [a1]
        generalize bits (fun i => l0.getD i 0) n.toNat = B at *
        have hz : (Bit.bits b).drop q = List.replicate (8 * b.size - q) false := by
          have h1 := Bit.of_val ((Bit.bits b).drop q)
          rw [List.length_drop, Bit.bits_length, hc.2] at h1
          rw [← h1]
          generalize 8 * b.size - q = m
          induction m with
          | zero => rfl
          | succ m ih => simp [Bit.of, ih, List.replicate_succ]
        rw [hz] at a3
        have hts : (Bit.text B).size = b.size := by rw [Bit.text_size]; omega
        have htb := Bit.text_bits B
        have e2 : 8 * Bit.size B - B.length = 8 * b.size - q := by unfold Bit.size; omega
        rw [e2, ← a3] at htb
        exact Bit.bits_inj hts htb
      · rw [if_neg hc] at h; cases h
end Va
end Go.Proofs.YtfgcgjogaaofdaaGreatDoor
