import Derived.Test.YtfibapfehgglhaaGreatDoorMeN
import Derived.Deep.DeepMust
import Derived.Deep.Slices
import Derived.ChangeSame
import Derived.Laws.AppendOwnNone
import Derived.Test.YtfibapfehgglhaaGreatDoorNumM
import Derived.Test.YtfibapfehgglhaaGreatDoorShelf
import Derived.Lib.Strings
import Derived.Lib.Slices
import Derived.Lib.Walk
import Derived.Lib.Builder
import Derived.Lib.AppendStr
import Derived.Lib.UnsafeStr
import Derived.Laws.Externs
/-
  Rows of integers, and what Valid of package meta comes to.
-/
namespace Go.Proofs.YtfibapfehgglhaaGreatDoor
open Go.RowKit
/-- integers, as values -/
def ivals (l : List Int) : List Value := l.map (Value.int .i64)
/-- a slice of integers: what its cells hold -/
def IRow (w : World) (A : Option Addr) (L : List Int) : Prop :=
  0 < L.length → ∃ ad, A = some ad ∧ ad.block < w.heap.size ∧ ∀ i, i < L.length → w.cell? (ad.add i) = some (.int .i64 (L.getD i 0))
theorem addr_add_block (a : Addr) (j : Nat) : (a.add j).block = a.block := by unfold Addr.add; split <;> rfl
theorem IRow.later {w w2 : World} {A : Option Addr} {L : List Int} (h : IRow w A L) (hb : Below w.heap.size w w2) : IRow w2 A L := fun hn => by
  obtain ⟨ad, e, hlt, hc⟩ := h hn
  exact ⟨ad, e, Nat.lt_of_lt_of_le hlt hb.size, fun i hi => (hb.cell (by rw [addr_add_block]; exact hlt)).trans (hc i hi)⟩
theorem IRow.below {w w2 : World} {B : Nat} {A : Option Addr} {L : List Int} (h : IRow w A L) (hB : ∀ ad, A = some ad → ad.block < B) (hb : Below B w w2) : IRow w2 A L := fun hn => by
  obtain ⟨ad, e, hlt, hc⟩ := h hn
  exact ⟨ad, e, Nat.lt_of_lt_of_le hlt hb.size, fun i hi => (hb.cell (by rw [addr_add_block]; exact hB ad e)).trans (hc i hi)⟩
theorem IRow.nil (w : World) (A : Option Addr) : IRow w A [] := fun h => absurd h (by simp)
/-- a slice of integers: its cells, and that a nil one has none -/
structure Ints (w : World) (A : Option Addr) (c : Nat) (L : List Int) : Prop where
  row : IRow w A L
  nil : A = none → L.length = 0 ∧ c = 0
  le : L.length ≤ c
theorem Ints.later {w w2 : World} {A : Option Addr} {c : Nat} {L : List Int} (h : Ints w A c L) (hb : Below w.heap.size w w2) : Ints w2 A c L := ⟨h.row.later hb, h.nil, h.le⟩
theorem Ints.zero (w : World) : Ints w .none 0 [] := ⟨IRow.nil w .none, fun _ => ⟨rfl, rfl⟩, Nat.le_refl _⟩
theorem ivals_length (L : List Int) : (ivals L).length = L.length := by simp [ivals]
theorem ivals_get (L : List Int) (i : Nat) (h : i < L.length) : (ivals L)[i]? = some (.int .i64 (L.getD i 0)) := by simp [ivals, List.getD, h]
theorem ivals_append (a b : List Int) : ivals (a ++ b) = ivals a ++ ivals b := by simp [ivals]
/-- integers of the call's own -/
theorem own_irow {w : World} {base e n : Nat} {v : Value} {L : List Int} (h : w.ownsRow base e 1 v n (ivals L)) : n = L.length ∧ ∃ A c, v = .slice A n c ∧ Ints w A c L := by
  have hl : n = L.length := by have := h.1; rw [ivals_length] at this; omega
  refine ⟨hl, ?_⟩
  rcases h.2 with ⟨rfl, h0⟩ | ⟨g, cap, cur, rfl, hb, hg, hc, _⟩
  · subst h0
    have : L = [] := List.length_eq_zero_iff.1 hl.symm
    subst this
    exact ⟨none, 0, rfl, Ints.zero w⟩
  · refine ⟨some ⟨g, 0, none⟩, cap, rfl, fun _ => ⟨⟨g, 0, none⟩, rfl, (Array.getElem?_eq_some_iff.1 hg).1, fun i hi => ?_⟩, fun h => (by cases h), by omega⟩
    rw [Addr.add_lit, Nat.zero_add, World.ownsRow.cellAt h _ (by omega), ivals_get L i hi]
/-- a row of integers that was made last -/
theorem own_made (w : World) (base : Nat) (hb : base ≤ w.heap.size) (L : List Int) (hL : L.length ≤ 1000) :
    (w.alloc (.cells (ivals L).toArray 3)).ownsRow base 3 1 (.slice (some ⟨w.heap.size, 0, none⟩) L.length L.length) L.length (ivals L) :=
  ⟨by rw [ivals_length]; omega, .inr ⟨w.heap.size, L.length, (ivals L).toArray, rfl, hb, heap_alloc_new _ _, Nat.le_refl _, by unfold maxLen; omega, by simp [ivals_length], by rw [Nat.mul_one]; exact List.take_of_length_le (by rw [ivals_length]; exact Nat.le_refl _)⟩⟩
theorem info_int : (Tryz.prog.info? 3).map (fun i => (i.zero, i.size, i.bytes)) = some (some (.int .i64 0), 1, 8) := by kernel_rfl
theorem wpList_append_ints {ops : Array Oper} {rest : List Oper} {o : Oper} {a : Act} {Q : Exit → Act → World → Prop} (w : World) (hgd : o.guard = none) (s x : Operand)
    (ho : o.op = .call { callee := .builtin .append, args := #[s, x], argTypes := #[52, 52] })
    (base : Nat) (v : Value) (n0 : Nat) (xs : List Int) (hs : a.eval s = v) (hown : w.ownsRow base 3 1 v n0 (ivals xs))
    (A : Option Addr) (c : Nat) (L : List Int) (n : Nat) (hn : n = L.length) (hx : a.eval x = .slice A n c) (hA : Ints w A c L) (nn : Nat) (hnn : n0 + n = nn) (hsz : nn ≤ 2000) (hbase : base ≤ w.heap.size)
    (h : ∀ v' w', w'.ownsRow base 3 1 v' nn (ivals (xs ++ L)) → w.grownBy w' v.ownBlock → wpList Tryz.prog ops Q rest (a.put o.dst v') w') : wpList Tryz.prog ops Q (o :: rest) a w := by
  obtain ⟨i0, hi0, hz0, hz1, hz2⟩ := info_parts info_int
  subst hn hnn
  cases A with
  | none =>
    obtain ⟨h0, rfl⟩ := hA.nil rfl
    have : L = [] := List.length_eq_zero_iff.1 h0
    subst this
    refine wpList_append_own_none hgd s x 52 ho base 3 i0 1 Tryz.underlying52 hi0 v n0 (ivals xs) hs hown hx ?_
    exact h v w (by simpa using hown) (grown_refl _ _)
  | some ad =>
    refine wpList_append_own w hgd s x 52 ho base 3 i0 (.int .i64 0) 1 8 Tryz.underlying52 hi0 hz0 hz1 hz2 rfl (by decide) v n0 (ivals xs) hs hown ad L.length c (ivals L) hx (by rw [ivals_length, Nat.mul_one]) ?_ ?_ (by unfold maxLen; omega) (by omega) hbase (fun v' w' h1 h2 _ => h v' w' (by rw [ivals_append]; exact h1) h2)
    · intro j u hu
      have hj : j < L.length := by
        rcases Nat.lt_or_ge j L.length with h | h
        · exact h
        · rw [List.getElem?_eq_none (by rw [ivals_length]; exact h)] at hu; cases hu
      obtain ⟨ad2, e, _, hc⟩ := hA.row (by omega)
      cases e
      rw [hc j hj, ← hu, ivals_get L j hj]
    · intro u hu
      simp only [ivals, List.mem_map] at hu
      obtain ⟨b, _, rfl⟩ := hu
      rfl

set_option maxRecDepth 100000 in
set_option maxHeartbeats 1000000 in
theorem iIndex_any (A : Option Addr) (n c : Nat) (L : List Int) (hn : n ≤ L.length) (hL : L.length ≤ 1000) (x : Int) (w : World) (hA : IRow w A L) :
    Calls Tryz.prog 206 #[.slice A n c, .int .i64 x] w fun e w' => ∃ r : Int, e = .returned (.int .i64 r) ∧ decide (0 ≤ r) = decide (x ∈ L.take n) ∧ w = w' := by
  have HA := Lib.hid hA; clear hA
  go_enter Tryz.func206, Tryz.ntmps206
  go_wp2_with fail
  go_loop [5, 8] (fun _ i => ∃ k : Nat, k ≤ n ∧ i = .int .i64 k ∧ x ∉ L.take k) (fun _ i => n - (intOf i).toNat)
  case atStart => exact ⟨0, by omega, rfl, by simp⟩
  case round =>
    obtain ⟨k, hk, rfl, ha⟩ := hrel
    have HX := Lib.hid ha; clear ha
    by_cases hlt : k < n
    · obtain ⟨ad, rfl, _, hc⟩ := HA.out (by omega)
      have c0 := hc k (by omega)
      have htk : L.take (k + 1) = L.take k ++ [L.getD k 0] := by
        rw [List.take_succ_eq_append_getElem (by omega)]; simp [List.getD, show k < L.length by omega]
      have hsub : L.getD k 0 ∈ L.take n := by
        have h1 : L.getD k 0 ∈ L.take (k + 1) := by rw [htk]; simp
        have h2 : (L.take n).take (k + 1) = L.take (k + 1) := by rw [List.take_take, Nat.min_eq_left (by omega)]
        exact List.mem_of_mem_take (h2 ▸ h1)
      have HTK := Lib.hid htk; have HSUB := Lib.hid hsub; clear htk hsub hc
      generalize L.getD k 0 = y at *
      have i1 : (k : Int) < (n : Int) := by omega
      have i0 : (0 : Int) ≤ (k : Int) := by omega
      by_cases hy : x = y
      · have d1 : (x == y) = true := by simpa using hy
        have HY := Lib.hid hy; clear hy
        go_wp2_with fail
        go_ret
        exact ⟨_, rfl, by rw [HY.out]; simp [HSUB.out], rfl⟩
      · have d1 : (x == y) = false := by simpa using hy
        have HY := Lib.hid hy; clear hy
        go_wp2_with fail
        go_round
        case rel =>
          refine ⟨k + 1, by omega, by go_num, ?_⟩
          rw [HTK.out]
          have h1 := HX.out; have h2 := HY.out
          simp [h1, h2]
        case measure => simp [intOf]; omega
    · obtain rfl : k = n := by omega
      go_wp2_with fail
      go_ret
      exact ⟨-1, rfl, by have := HX.out; simp [this], rfl⟩

set_option maxRecDepth 100000 in
set_option maxHeartbeats 400000 in
theorem iContains_any (A : Option Addr) (n c : Nat) (L : List Int) (hn : n ≤ L.length) (hL : L.length ≤ 1000) (x : Int) (w : World) (hA : IRow w A L) :
    Calls Tryz.prog 157 #[.slice A n c, .int .i64 x] w fun e w' => e = .returned (.bool (decide (x ∈ L.take n))) ∧ w = w' := by
  go_enter Tryz.func157, Tryz.ntmps157
  go_wp2_with fail
  refine (iIndex_any A n c L hn hL x _ hA).mono ?_
  rintro e w2 ⟨r, rfl, hr, rfl⟩
  have HR := Lib.hid hr; clear hr
  go_wp2_with fail
  go_ret
  refine ⟨?_, rfl⟩
  rw [← HR.out]; rfl

/-- a meta, as a value -/
def Me.M.val (m : Me.M) (A : Option Addr) (c : Nat) : Value := .agg #[.int .i64 m.gen, .int .i64 m.next, .int .i64 m.wal, .slice A m.bs.length c]
/-- the block of a meta -/
def MetaAt (b : Nat) (m : Me.M) (A : Option Addr) (c : Nat) (w : World) : Prop := w.heap[b]? = some (.cells #[.int .i64 m.gen, .int .i64 m.next, .int .i64 m.wal, .slice A m.bs.length c] 54 (0, 0))
theorem MetaAt.cells {b : Nat} {m : Me.M} {A : Option Addr} {c : Nat} {w : World} (h : MetaAt b m A c w) : w.cell? ⟨b, 0, none⟩ = some (.int .i64 m.gen) ∧ w.cell? ⟨b, 1, none⟩ = some (.int .i64 m.next) ∧ w.cell? ⟨b, 2, none⟩ = some (.int .i64 m.wal) ∧ w.cell? ⟨b, 3, none⟩ = some (.slice A m.bs.length c) :=
  ⟨cell_of_row w b 0 _ _ _ h, cell_of_row w b 1 _ _ _ h, cell_of_row w b 2 _ _ _ h, cell_of_row w b 3 _ _ _ h⟩
theorem MetaAt.later {b : Nat} {m : Me.M} {A : Option Addr} {c : Nat} {w w2 : World} (h : MetaAt b m A c w) (hb : Below w.heap.size w w2) : MetaAt b m A c w2 := heap_keep h hb
theorem MetaAt.lt {b : Nat} {m : Me.M} {A : Option Addr} {c : Nat} {w : World} (h : MetaAt b m A c w) : b < w.heap.size := (Array.getElem?_eq_some_iff.1 h).1
theorem MetaAt.grown {b : Nat} {m : Me.M} {A : Option Addr} {c : Nat} {w w2 : World} {row : Option Nat} (h : MetaAt b m A c w) (hg : w.grownBy w2 row) (hne : some b ≠ row) : MetaAt b m A c w2 := (hg.block b h.lt hne).trans h

set_option maxRecDepth 100000 in
set_option maxHeartbeats 4000000 in
theorem Valid_any (m : Me.M) (A : Option Addr) (c : Nat) (hl : m.bs.length ≤ 700) (w : World) (hA : Ints w A c m.bs) :
    Calls Tryz.prog 104 #[.agg #[.int .i64 m.gen, .int .i64 m.next, .int .i64 m.wal, .slice A m.bs.length c]] w fun e w' => e = .returned (.bool (Me.valid m)) ∧ Below w.heap.size w w' := by
  have hm1 : MetaAt w.heap.size m A c (w.alloc (.cells #[.int .i64 m.gen, .int .i64 m.next, .int .i64 m.wal, .slice A m.bs.length c] 54)) := heap_alloc_new _ _
  have hb1 : Below w.heap.size w (w.alloc (.cells #[.int .i64 m.gen, .int .i64 m.next, .int .i64 m.wal, .slice A m.bs.length c] 54)) := (Below.refl _ w).alloc (Nat.le_refl _) _
  have ha1 := hA.later hb1
  obtain ⟨c0, c1, c2, c3⟩ := hm1.cells
  have hval := Me.valid_iff m
  have HM := Lib.hid hm1; have HB := Lib.hid hb1; have HA := Lib.hid ha1; have HV := Lib.hid hval
  clear hm1 hb1 ha1 hA hval
  by_cases hok : Me.okay m
  · have hok2 := hok
    unfold Me.okay at hok2
    obtain ⟨o1, o2, o3, o4, o5⟩ := hok2
    have d1 : decide (m.gen < 1) = false := by simp; omega
    have d2 : decide (3 < m.gen) = false := by simp; omega
    have d3 : decide (m.next < 0) = false := by simp; omega
    have d4 : decide (999999 < m.next) = false := by simp; omega
    have d5 : decide ((40 : Int) < ((m.bs.length : Nat) : Int)) = false := by simp; omega
    have HOK := Lib.hid hok; clear hok
    generalize Me.valid m = vl at *
    generalize hwe : w.heap.size = b at *
    generalize hw1 : w.alloc (.cells #[.int .i64 m.gen, .int .i64 m.next, .int .i64 m.wal, .slice A m.bs.length c] 54) = w1 at *
    have hbs : b < w1.heap.size := HM.out.lt
    have hma : (w1.alloc (.cells #[.int .i64 m.wal] 3)).ownsRow b 3 1 (.slice (some ⟨w1.heap.size, 0, none⟩) 1 1) 1 (ivals [m.wal]) := own_made w1 b (by omega) [m.wal] (by simp)
    have hb2 : Below b w (w1.alloc (.cells #[.int .i64 m.wal] 3)) := HB.out.alloc (by omega) _
    have hal : Below w1.heap.size w1 (w1.alloc (.cells #[.int .i64 m.wal] 3)) := (Below.refl _ w1).alloc (Nat.le_refl _) _
    have hm2 := HM.out.later hal
    have hA2 := HA.out.later hal
    have c3' := hm2.cells.2.2.2
    have HMA := Lib.hid hma; have HB2 := Lib.hid hb2; have HM2 := Lib.hid hm2; have HA2 := Lib.hid hA2
    clear hma hb2 hal hm2 hA2
    obtain ⟨nn, hnn⟩ : ∃ nn, 1 + m.bs.length = nn := ⟨_, rfl⟩
    have HNN := Lib.hid hnn; clear hnn
    go_enter Tryz.func104, Tryz.ntmps104
    go_wp2_with (at_builtin; (refine wpList_append_ints _ rfl (.tmp 32) (.tmp 34) rfl b (.slice (some ⟨w1.heap.size, 0, none⟩) 1 1) 1 [m.wal] rfl HMA.out A c m.bs m.bs.length rfl rfl HA2.out nn HNN.out (by have := HNN.out; omega) (by have := HB2.out.size; simp; omega) ?_); intro v6 w6 hown6 hg6; obtain ⟨hz6, A6, c6, rfl, hI6⟩ := own_irow hown6; have HZ6 := Lib.hid hz6; have HI6 := Lib.hid hI6; have HG6 := Lib.hid hg6; clear hown6 hg6 hz6 hI6)
    have hm6 : MetaAt b m A c w6 := HM2.out.grown HG6.out (by simp [Value.ownBlock]; omega)
    have hb6 : Below b w w6 := HB2.out.grown HG6.out (by have := HB2.out.size; omega) (fun r e => by simp [Value.ownBlock] at e; omega)
    obtain ⟨-, e1, -, -⟩ := hm6.cells
    have HB6 := Lib.hid hb6
    clear hm6 hb6 c0 c1 c2 c3 c3' HG6 HMA HB2 HM2 HA2 HM HA HB d1 d2 d3 d4 d5
    have hfl : ([m.wal] ++ m.bs).length = m.bs.length + 1 := by simp
    have hVF : ∀ k, k < m.bs.length + 1 → ¬ (0 ≤ ([m.wal] ++ m.bs).getD k 0 ∧ ([m.wal] ++ m.bs).getD k 0 < m.next ∧ ([m.wal] ++ m.bs).getD k 0 ∉ ([m.wal] ++ m.bs).take k) → vl = false := fun k hk h => by
      cases hv : vl with
      | false => rfl
      | true => exact absurd ((HV.out.1 hv).2 k hk) h
    have hVT : Me.good m.next ([m.wal] ++ m.bs) (m.bs.length + 1) → vl = true := fun h => HV.out.2 ⟨HOK.out, h⟩
    have HVF := Lib.hid hVF; have HVT := Lib.hid hVT; have HFL := Lib.hid hfl
    clear hVF hVT hfl HV HOK hw1
    generalize [m.wal] ++ m.bs = fs at *
    generalize m.next = nx at *
    generalize m.bs.length = n at *
    go_loop [4, 5, 38] (fun _ _ i => ∃ k : Nat, k ≤ nn ∧ i = .int .i64 k ∧ Me.good nx fs k) (fun _ _ i => nn - (intOf i).toNat)
    case atStart => exact ⟨0, by omega, rfl, Me.good_zero _ _⟩
    case round =>
      obtain ⟨k, hk, rfl, hgd⟩ := hrel
      have HGD := Lib.hid hgd; clear hgd
      have hF := HFL.out; have hnn := HNN.out; have hz6 := HZ6.out
      by_cases hlt : k < nn
      · obtain ⟨ad, rfl, -, hc⟩ := HI6.out.row (by omega)
        have x0 := hc k (by omega)
        have hbad := HVF.out k (by omega)
        have hnext := Me.good_succ nx fs k HGD.out
        have hle := HI6.out.le
        have hcon := iContains_any (some ad) k c6 fs (by omega) (by omega) (fs.getD k 0) w6 HI6.out.row
        have HBAD := Lib.hid hbad; have HNX := Lib.hid hnext; have HCON := Lib.hid hcon
        clear hbad hnext hc hcon
        generalize fs.getD k 0 = x at *
        have i1 : (k : Int) < (nn : Int) := by omega
        have i0 : (0 : Int) ≤ (k : Int) := by omega
        by_cases hx0 : x < 0
        · have d1 : decide (x < 0) = true := by simpa using hx0
          have hv := HBAD.out (by omega)
          subst hv
          clear hF hle hnn hz6
          go_wp2_with fail
          go_ret
          exact ⟨rfl, HB6.out⟩
        · have d1 : decide (x < 0) = false := by simpa using hx0
          by_cases hx1 : nx ≤ x
          · have d2 : decide (nx ≤ x) = true := by simpa using hx1
            have hv := HBAD.out (by omega)
            subst hv
            clear hF hle hnn hz6
            go_wp2_with fail
            go_ret
            exact ⟨rfl, HB6.out⟩
          · have d2 : decide (nx ≤ x) = false := by simp; omega
            by_cases hin : x ∈ fs.take k
            · have d3 : decide (x ∈ fs.take k) = true := by simpa using hin
              rw [d3] at HCON
              have hv := HBAD.out (fun h => h.2.2 hin)
              subst hv
              have hkc : k ≤ c6 := by omega
              clear hF d3 hin hnn hz6
              go_wp2_with fail
              refine HCON.out.mono ?_; rintro e w7 ⟨rfl, rfl⟩
              go_wp2_with fail
              go_ret
              exact ⟨rfl, HB6.out⟩
            · have d3 : decide (x ∈ fs.take k) = false := by simpa using hin
              rw [d3] at HCON
              have hg2 := HNX.out ⟨by omega, by omega, hin⟩
              have HG2 := Lib.hid hg2
              have hkc : k ≤ c6 := by omega
              have hkb : k ≤ 1000 := by omega
              clear hF d3 hin hg2 hnn hz6
              go_wp2_with fail
              refine HCON.out.mono ?_; rintro e w7 ⟨rfl, rfl⟩
              go_wp2_with fail
              go_round
              case rel => exact ⟨k + 1, by omega, by go_num, HG2.out⟩
              case measure => simp [intOf]; omega
      · have hv := HVT.out (by rw [show n + 1 = k by omega]; exact HGD.out)
        subst hv
        clear hF hnn hz6
        have i1 : ¬ (k : Int) < (nn : Int) := by omega
        go_wp2_with fail
        go_ret
        exact ⟨rfl, HB6.out⟩
  · have hvf : Me.valid m = false := by
      cases hv : Me.valid m with
      | false => rfl
      | true => exact absurd (HV.out.1 hv).1 hok
    rw [hvf]
    have hc : decide (m.gen < 1) = true ∨ (decide (m.gen < 1) = false ∧ decide (3 < m.gen) = true) ∨ (decide (m.gen < 1) = false ∧ decide (3 < m.gen) = false ∧ decide (m.next < 0) = true) ∨
        (decide (m.gen < 1) = false ∧ decide (3 < m.gen) = false ∧ decide (m.next < 0) = false ∧ decide (999999 < m.next) = true) ∨
        (decide (m.gen < 1) = false ∧ decide (3 < m.gen) = false ∧ decide (m.next < 0) = false ∧ decide (999999 < m.next) = false ∧ decide ((40 : Int) < ((m.bs.length : Nat) : Int)) = true) := by
      unfold Me.okay at hok
      simp only [decide_eq_true_eq, decide_eq_false_iff_not]
      omega
    clear hok hvf HV HM HA hl
    generalize m.bs.length = n at *
    rcases hc with d1 | ⟨d1, d2⟩ | ⟨d1, d2, d3⟩ | ⟨d1, d2, d3, d4⟩ | ⟨d1, d2, d3, d4, d5⟩
    all_goals
      go_enter Tryz.func104, Tryz.ntmps104
      go_wp2_with fail
      go_ret
      exact ⟨rfl, HB.out⟩
end Go.Proofs.YtfibapfehgglhaaGreatDoor
/-
  What the methods of a strings.Builder that a call makes come to.
-/
namespace Go.Proofs.YtfibapfehgglhaaGreatDoor
open Go.RowKit

/-- a builder of the call's own, and its bytes -/
def BldAt (W : World) (base b : Nat) (l : List UInt8) : Prop := Lib.IsBuilder 250 5 base b (byteVals l) W
theorem BldAt.new (w : World) : BldAt (w.alloc (.cells #[.pointer none, .slice none 0 0] 250)) w.heap.size w.heap.size [] := Lib.fresh_isBuilder _ _ w
theorem BldAt.lt {W : World} {base b : Nat} {l : List UInt8} (h : BldAt W base b l) : b < W.heap.size := by
  rcases h with h | h <;> exact h.lt
theorem BldAt.keepAt {W W2 : World} {base b : Nat} {p : Value} {l : List Value} (h : Lib.BuilderAt 250 5 base b p l W) (hb : Below W.heap.size W W2) : Lib.BuilderAt 250 5 base b p l W2 := by
  obtain ⟨h1, v, h2, h3, h4⟩ := h
  exact ⟨h1, v, heap_keep h2 hb, h3.kept (grown_of_below (row := none) hb) (by cases hv : v.ownBlock <;> simp), h4⟩
theorem BldAt.keep {W W2 : World} {base b : Nat} {l : List UInt8} (h : BldAt W base b l) (hb : Below W.heap.size W W2) : BldAt W2 base b l := by
  rcases h with h | h
  · exact .inl (BldAt.keepAt h hb)
  · exact .inr (BldAt.keepAt h hb)

/-- rows of other types are as they were -/
def Others (b : Nat) (w w' : World) : Prop := ∀ k cs t, w.heap[k]? = some (.cells cs t (0, 0)) → k ≠ b → t ≠ 5 → w'.heap[k]? = some (.cells cs t (0, 0))
theorem Others.refl (b : Nat) (w : World) : Others b w w := fun _ _ _ h _ _ => h
theorem Others.trans {b : Nat} {w w1 w2 : World} (h : Others b w w1) (h2 : Others b w1 w2) : Others b w w2 := fun k cs t hk hb ht => h2 k cs t (h k cs t hk hb ht) hb ht
theorem Others.setCell (b i : Nat) (v : Value) (w : World) : Others b w (w.setCell ⟨b, i, none⟩ v) := fun k _ _ hk hb _ => (heap_setCell_other w ⟨b, i, none⟩ k v hb).trans hk
theorem Others.grown {b base n : Nat} {v : Value} {xs : List Value} {w w2 : World} (hown : w.ownsRow base 5 1 v n xs) (hg : w.grownBy w2 v.ownBlock) : Others b w w2 := fun k cs t hk _ ht => by
  refine (hg.block k (Array.getElem?_eq_some_iff.1 hk).1 (fun e => ?_)).trans hk
  rcases hown.2 with ⟨rfl, _⟩ | ⟨g, cap, cur, rfl, _, hgg, _⟩
  · simp [Value.ownBlock] at e
  · simp [Value.ownBlock] at e
    subst e
    rw [hgg] at hk
    injection hk with hk
    injection hk with _ h2
    exact ht h2.symm
theorem Others.below {b : Nat} {w w2 : World} (hb : Below w.heap.size w w2) : Others b w w2 := fun _ _ _ hk _ _ => heap_keep hk hb
theorem bld_size : (Tryz.prog.info? 250).map (·.size) = some 2 := by kernel_rfl
theorem bld_lies : liesAt Tryz.prog Tryz.prog.depth 250 (2 / Tryz.prog.cellsOf 250) 0 250 1 = true := by kernel_rfl
theorem bld_byte : (Tryz.prog.info? 5).map (fun i => (i.zero, i.size, i.bytes)) = some (some (.int .u8 0), 1, 1) := by kernel_rfl

set_option maxHeartbeats 1000000 in
set_option maxRecDepth 100000 in
theorem bldCheck_used (b : Nat) (w : World) (h0 : w.cell? ⟨b, 0, none⟩ = some (.pointer (some ⟨b, 0, none⟩))) :
    Calls Tryz.prog 197 #[.pointer (some ⟨b, 0, none⟩)] w fun e w' => e = .returned (.tuple #[]) ∧ w' = w := by
  obtain ⟨j, hj, _⟩ := Option.map_eq_some_iff.1 bld_size
  go_enter Tryz.func197, Tryz.ntmps197
  go_wp2
  rw [Lib.run_neq_ptr_same w _ Tryz.underlying248 hj]
  go_wp2
  go_end0
  exact ⟨rfl, rfl⟩

set_option maxHeartbeats 1000000 in
set_option maxRecDepth 100000 in
theorem bldCheck_fresh (b : Nat) (w : World) (h0 : w.cell? ⟨b, 0, none⟩ = some (.pointer none)) (hsh : w.shape? b = some (250, 2)) (hfz : w.frozen? ⟨b, 0, none⟩ = false) :
    Calls Tryz.prog 197 #[.pointer (some ⟨b, 0, none⟩)] w fun e w' => e = .returned (.tuple #[]) ∧ w' = w.setCell ⟨b, 0, none⟩ (.pointer (some ⟨b, 0, none⟩)) := by
  obtain ⟨j, hj, hjs⟩ := Option.map_eq_some_iff.1 bld_size
  go_enter Tryz.func197, Tryz.ntmps197
  go_wp2
  rw [Lib.run_to_unsafe w ⟨b, 0, none⟩ Tryz.underlying248 Tryz.underlying348 hj (by rw [hjs]; decide) hsh (Nat.zero_lt_succ 1)]
  simp only [Result.andThen]
  rw [Oper.upon_value]
  go_wp2
  rw [run_callFunc_extern Tryz.func233 (by kernel_rfl) (by kernel_rfl) (by kernel_rfl) (e := Extern.AbiNoEscape.same) (by kernel_rfl)]
  rw [Lib.run_noEscape]
  simp only [Result.andThen]
  rw [Oper.upon_value]
  go_wp2
  rw [Lib.run_from_unsafe w ⟨b, 0, none⟩ Tryz.underlying348 Tryz.underlying248 hj hsh bld_lies]
  simp only [Result.andThen]
  rw [Oper.upon_value]
  go_wp2
  go_end0
  exact ⟨rfl, rfl⟩

theorem bldCheck_any (base b : Nat) (bs : List Value) (w : World) (h : Lib.IsBuilder 250 5 base b bs w) :
    Calls Tryz.prog 197 #[.pointer (some ⟨b, 0, none⟩)] w fun e w' => e = .returned (.tuple #[]) ∧ Lib.BuilderAt 250 5 base b (.pointer (some ⟨b, 0, none⟩)) bs w' ∧ Below base w w' ∧ Others b w w' := by
  rcases h with h | h
  · refine (bldCheck_fresh b w h.cell0 h.shape h.frozen0).mono ?_
    rintro e w' ⟨rfl, rfl⟩
    exact ⟨rfl, h.used _, (Below.refl base w).setCell (p := ⟨b, 0, none⟩) h.1 _, Others.setCell _ _ _ _⟩
  · refine (bldCheck_used b w h.cell0).mono ?_
    rintro e w' ⟨rfl, rfl⟩
    exact ⟨rfl, h, Below.refl base _, Others.refl _ _⟩

set_option maxHeartbeats 2000000 in
set_option maxRecDepth 100000 in
theorem bldString (base b : Nat) (l : List UInt8) (s : ByteArray) (w : World) (h : BldAt w base b l) (hlen : l.length + s.size ≤ 1099511627776) (hBw : base ≤ w.heap.size) :
    Calls Tryz.prog 145 #[.pointer (some ⟨b, 0, none⟩), .string s] w fun e w' => e = .returned (.tuple #[.int .i64 s.size, .nilIface]) ∧ BldAt w' base b (l ++ s.data.toList) ∧ Below base w w' ∧ Others b w w' := by
  obtain ⟨i0, hi, hz0, hz1, hz2⟩ := info_parts bld_byte
  have hbl : (byteVals l).length = l.length := by simp [byteVals]
  go_enter Tryz.func145, Tryz.ntmps145
  go_wp2_with fail
  refine (bldCheck_any base b (byteVals l) _ h).mono ?_
  rintro e w1 ⟨rfl, h1, hb1, ho1⟩
  have HO1 := Lib.hid ho1; clear ho1
  obtain ⟨hB, v, hbk, hown, hne⟩ := h1
  have c0 : w1.cell? ⟨b, 0, none⟩ = some (.pointer (some ⟨b, 0, none⟩)) := by rw [Lib.cell_of_heap hbk]; rfl
  have c1 : w1.cell? ⟨b, 1, none⟩ = some v := by rw [Lib.cell_of_heap hbk]; rfl
  go_wp2_with (at_builtin; refine Lib.wpList_append_own_string _ rfl _ _ 92 9 rfl base 5 i0 Tryz.underlying92 Tryz.underlying9 hi hz0 hz1 hz2 _ _ _ rfl hown s rfl ?c3 ?c4 ?c5 ?_)
  case c3 => unfold maxLen; omega
  case c4 => omega
  case c5 => have := hb1.size; omega
  intro v' w2 hown' hgrow _
  have hlt : b < w1.heap.size := (Array.getElem?_eq_some_iff.1 hbk).1
  have hb2 : w2.heap[b]? = some (.cells #[.pointer (some ⟨b, 0, none⟩), v] 250 (0, 0)) := by
    rw [hgrow.block b hlt (fun e => hne e.symm)]
    exact hbk
  have d0 : w2.cell? ⟨b, 0, none⟩ = some (.pointer (some ⟨b, 0, none⟩)) := by rw [Lib.cell_of_heap hb2]; rfl
  have d1 : w2.cell? ⟨b, 1, none⟩ = some v := by rw [Lib.cell_of_heap hb2]; rfl
  have f1 : w2.frozen? ⟨b, 1, none⟩ = false := Lib.frozen_of_heap hb2 1
  obtain ⟨ao, n', cap, rfl⟩ : ∃ ao n' cap, v' = .slice ao n' cap := by
    rcases hown'.2 with ⟨hv, _⟩ | ⟨g, cap, cur, hv, _⟩
    · exact ⟨_, _, _, hv⟩
    · exact ⟨_, _, _, hv⟩
  go_wp2
  go_ret2
  have hcat : byteVals (l ++ s.data.toList) = byteVals l ++ Lib.strCells s := by rw [byteVals_append]; rfl
  refine ⟨rfl, .inr ?_, ?_, ?_⟩
  · rw [hcat]
    exact Lib.BuilderAt.put (T := 250) (e := 5) hB hb2 (bs' := byteVals l ++ Lib.strCells s) (by simpa [Lib.strCells_length, hbl] using hown') (by decide)
  · exact (hb1.grown hgrow (by have := hb1.size; omega) (fun k hk => (hown.lt k hk).1)).setCell (p := ⟨b, 1, none⟩) hB _
  · exact HO1.out.trans ((Others.grown hown hgrow).trans (Others.setCell _ _ _ _))

theorem bldText (base b : Nat) (l : List UInt8) (w : World) (h : BldAt w base b l) (hBw : base ≤ w.heap.size) :
    Calls Tryz.prog 147 #[.pointer (some ⟨b, 0, none⟩)] w fun e w' => e = .returned (.string ⟨l.toArray⟩) ∧ Below base w w' :=
  Tryz.Builder_String_any base b l w h hBw
end Go.Proofs.YtfibapfehgglhaaGreatDoor
