import Derived.Test.YtaillfnmaiiapaaWbO
import Derived.Test.YtaillfnmaiiapaaWaA
import Derived.Test.YtaillfnmaiiapaaRows
import Derived.Deep.Slices
import Derived.OpenShut
import Derived.Test.YtaillfnmaiiapaaLaT
import Derived.BigQuiet
/-
  Rows of changes, as the laws put them: mathematics.
-/
namespace Go.Proofs.Ytaillfnmaiiapaa
open Go.RowKit
namespace Wa
theorem frs_size {f : Nat → Rec} (K : List ByteArray) : ∀ n, (∀ i, i < n → may (f i) = true) → (frs f K n).1.size ≤ 4000 * n
  | 0, _ => Nat.le_refl _
  | n + 1, h => by
    have ih := frs_size (f := f) K n fun i hi => h i (by omega)
    have ht := tell_size (two := true) (K := (frs f K n).2) (t := 0) (v := 0) (h n (by omega))
    have hs := Fr.small_le (tell true (frs f K n).2 0 0 (f n)).1.size
    show ((frs f K n).1 ++ Fr.put (tell true (frs f K n).2 0 0 (f n)).1).size ≤ _
    rw [ByteArray.size_append, Fr.put_size]
    omega
theorem putR_size (g : Int) (K : List ByteArray) (f : Nat → Rec) (n : Nat) : (putR g K f n).1.size ≤ 4000 * n + 20020 := by
  unfold putR
  split
  · exact Nat.zero_le _
  split
  · exact Nat.zero_le _
  rename_i h0
  have hv := firstErr_ok.1 (Decidable.not_not.1 h0)
  split
  · show (fixes f n).size ≤ _
    rw [fixes_size]; omega
  split
  · have := frs_size (f := f) K n fun i hi => (valid_may (hv i hi)).1
    show (frs f K n).1.size ≤ _
    omega
  split
  · exact Nat.zero_le _
  split
  · exact Nat.zero_le _
  rename_i hz
  have hs := Fr.small_le (batch f K n).size
  show (Fr.put (batch f K n)).size ≤ _
  rw [Fr.put_size]
  omega
theorem join_succ (R : Nat → Row) (k : Nat) : (join R (k + 1)).length = (join R k).length + (R k).n := by
  show (join R k ++ (R k).list).length = _
  rw [List.length_append, Row.list_length]
theorem rows_size (g : Int) (R : Nat → Row) : ∀ k, (rows g R k).1.size ≤ 4000 * (join R k).length + 20020 * k
  | 0 => Nat.le_refl _
  | k + 1 => by
    have ih := rows_size g R k
    have h := putR_size g (rows g R k).2 (R k).f (R k).n
    have e := join_succ R k
    show ((rows g R k).1 ++ (putR g (rows g R k).2 (R k).f (R k).n).1).size ≤ _
    rw [ByteArray.size_append]
    omega
theorem join_mono (R : Nat → Row) {i k : Nat} (h : i ≤ k) : (join R i).length ≤ (join R k).length := by
  induction k with
  | zero => rw [show i = 0 by omega]; exact Nat.le_refl _
  | succ k ih =>
    by_cases e : i = k + 1
    · rw [e]; exact Nat.le_refl _
    · have := ih (by omega)
      rw [join_succ]; omega
theorem rows_mono (g : Int) (R : Nat → Row) {i k : Nat} (h : i ≤ k) : (rows g R i).1.size ≤ (rows g R k).1.size := by
  induction k with
  | zero => rw [show i = 0 by omega]; exact Nat.le_refl _
  | succ k ih =>
    by_cases e : i = k + 1
    · rw [e]; exact Nat.le_refl _
    · have := ih (by omega)
      refine Nat.le_trans this ?_
      show _ ≤ ((rows g R k).1 ++ (putR g (rows g R k).2 (R k).f (R k).n).1).size
      rw [ByteArray.size_append]; omega
end Wa
/-- rows of changes, as they lie -/
structure RowAt where
  A : Option Addr
  n : Nat
  c : Nat
  q : Nat → RAt
def sx (R : Nat → RowAt) (i : Nat) (_ : Nat) : Value := .slice (R i).A (R i).n (R i).c
def wrow (R : Nat → RowAt) (i : Nat) : Wa.Row := ⟨(R i).n, recF (R i).q⟩
/-- how many changes the first rows have -/
def jn (R : Nat → RowAt) : Nat → Nat
  | 0 => 0
  | k + 1 => jn R k + (R k).n
/-- the changes of the first rows -/
def jq (R : Nat → RowAt) : Nat → Nat → RAt
  | 0, _ => ⟨⟨0, [], 0, 0, 0⟩, none, 0⟩
  | k + 1, i => if i < jn R k then jq R k i else (R k).q (i - jn R k)
theorem jq_lo (R : Nat → RowAt) (k : Nat) {i : Nat} (h : i < jn R k) : jq R (k + 1) i = jq R k i := if_pos h
theorem jq_hi (R : Nat → RowAt) (k i : Nat) : jq R (k + 1) (jn R k + i) = (R k).q i := by
  show (if _ then _ else _) = _
  rw [if_neg (by omega), Nat.add_sub_cancel_left]
theorem rcells_join {k : Nat} {x y z : Nat → Nat → Value} {n : Nat} (h1 : ∀ i, i < n → z i = x i) : ∀ m, (∀ i, i < m → z (n + i) = y i) → rcells k z (n + m) = rcells k x n ++ rcells k y m
  | 0, _ => by
    have e : rcells k y 0 = [] := rfl
    rw [e, List.append_nil, Nat.add_zero]
    unfold rcells
    have : ∀ (l : List Nat), (∀ i ∈ l, i < n) → (l.flatMap fun i => (List.range k).map (z i)) = l.flatMap fun i => (List.range k).map (x i) := by
      intro l
      induction l with
      | nil => intro _; rfl
      | cons a l ih =>
        intro h
        rw [List.flatMap_cons, List.flatMap_cons, ih (fun i hi => h i (List.mem_cons_of_mem _ hi)), h1 a (h a (List.mem_cons_self ..))]
    exact this _ (fun i hi => List.mem_range.1 hi)
  | m + 1, h2 => by
    have ih := rcells_join (k := k) (x := x) (y := y) (z := z) h1 m fun i hi => h2 i (by omega)
    rw [← Nat.add_assoc, rcells_succ, rcells_succ, ih, h2 m (by omega), List.append_assoc]
theorem rx_at {q p : Nat → RAt} {i j : Nat} (h : q i = p j) : rx q i = rx p j := by
  funext c
  match c with
  | 0 => simp only [rx, h]
  | 1 => simp only [rx, h]
  | 2 => simp only [rx, h]
  | 3 => simp only [rx, h]
  | _ + 4 => simp only [rx, h]
theorem rcells_jq (R : Nat → RowAt) (k : Nat) : rcells 5 (rx (jq R (k + 1))) (jn R (k + 1)) = rcells 5 (rx (jq R k)) (jn R k) ++ rcells 5 (rx (R k).q) (R k).n :=
  rcells_join (fun _ hi => rx_at (jq_lo R k hi)) _ (fun i _ => rx_at (jq_hi R k i))
/-- what all of the first rows have -/
theorem jq_all {R : Nat → RowAt} {p : RAt → Prop} : ∀ k, (∀ i, i < jn R k → p (jq R k i)) ↔ ∀ i, i < k → ∀ j, j < (R i).n → p ((R i).q j)
  | 0 => ⟨fun _ i hi => by omega, fun _ i hi => absurd hi (Nat.not_lt_zero i)⟩
  | k + 1 => by
    have ih := @jq_all R p k
    constructor
    · intro h i hi j hj
      by_cases e : i = k
      · subst e
        have := h (jn R i + j) (by show _ < jn R i + _; omega)
        rwa [jq_hi] at this
      · exact ih.1 (fun i2 h2 => by have := h i2 (by show _ < jn R k + _; omega); rwa [jq_lo R k h2] at this) i (by omega) j hj
    · intro h i hi
      by_cases hlt : i < jn R k
      · rw [jq_lo R k hlt]
        exact ih.2 (fun i2 h2 => h i2 (by omega)) i hlt
      · have hi' : i < jn R k + (R k).n := hi
        obtain ⟨d, rfl⟩ : ∃ d, i = jn R k + d := ⟨i - jn R k, by omega⟩
        rw [jq_hi]
        exact h k (by omega) d (by omega)
theorem join_jq (R : Nat → RowAt) : ∀ k, Wa.join (wrow R) k = (List.range (jn R k)).map (recF (jq R k))
  | 0 => rfl
  | k + 1 => by
    have ih := join_jq R k
    show Wa.join (wrow R) k ++ (wrow R k).list = _
    rw [ih]
    show _ = (List.range (jn R k + (R k).n)).map _
    rw [List.range_add, List.map_append, List.map_map]
    congr 1
    · apply List.map_congr_left
      intro i hi
      unfold recF
      rw [jq_lo R k (List.mem_range.1 hi)]
    · apply List.map_congr_left
      intro i _
      show recF (R k).q i = (jq R (k + 1) (jn R k + i)).r
      rw [jq_hi]; rfl
theorem join_len (R : Nat → RowAt) (k : Nat) : (Wa.join (wrow R) k).length = jn R k := by rw [join_jq]; simp
theorem jn_mono (R : Nat → RowAt) {i k : Nat} (h : i ≤ k) : jn R i ≤ jn R k := by rw [← join_len, ← join_len]; exact Wa.join_mono _ h
theorem row_le (R : Nat → RowAt) {i k : Nat} (h : i < k) : (R i).n ≤ jn R k := by
  have h1 := jn_mono R (show i + 1 ≤ k from h)
  have h2 : jn R (i + 1) = jn R i + (R i).n := rfl
  omega
/-- rows that came in -/
structure RowsRaw (w : World) (C : Option Addr) (k : Nat) (R : Nat → RowAt) : Prop where
  row : Row 1 (sx R) w C k
  each : ∀ i, i < k → RecsRaw w (R i).A (R i).n (R i).q
  len : ∀ i, i < k → (R i).n ≤ maxLen
  nil : ∀ i, i < k → (R i).A = none → (R i).n = 0 ∧ (R i).c = 0
  words : ∀ i j, j < (R i).n → Wa.Words ((R i).q j).r
theorem RowsRaw.later {w w2 : World} {C : Option Addr} {k : Nat} {R : Nat → RowAt} (h : RowsRaw w C k R) (hb : Below w.heap.size w w2) : RowsRaw w2 C k R :=
  ⟨h.row.later hb, fun i hi => (h.each i hi).later hb, h.len, h.nil, h.words⟩
/-- .. few of them -/
structure RowsIn (w : World) (C : Option Addr) (k : Nat) (R : Nat → RowAt) : Prop where
  row : Row 1 (sx R) w C k
  each : ∀ i, i < k → RecsIn w (R i).A (R i).n (R i).q
  few : jn R k ≤ 40
  words : ∀ i j, j < (R i).n → Wa.Words ((R i).q j).r
theorem RowsIn.later {w w2 : World} {C : Option Addr} {k : Nat} {R : Nat → RowAt} (h : RowsIn w C k R) (hb : Below w.heap.size w w2) : RowsIn w2 C k R :=
  ⟨h.row.later hb, fun i hi => (h.each i hi).later hb, h.few, h.words⟩
theorem RowsRaw.in_ {w : World} {C : Option Addr} {k : Nat} {R : Nat → RowAt} (h : RowsRaw w C k R) (hf : fewR (jq R k) (jn R k) = true) : RowsIn w C k R := by
  obtain ⟨h1, h2⟩ := fewR_yes hf
  have h3 := (jq_all (R := R) (p := fun x => La.few (La.at_ x.r.l) x.r.l.length = true) k).1 h2
  refine ⟨h.row, fun i hi => (h.each i hi).in_ ?_, h1, h.words⟩
  have h4 := row_le R hi
  exact fewR_all (by omega) fun j hj => h3 i hi j hj
/-- .. and they lie behind each other -/
theorem RowsRaw.joined {w w2 : World} {C A : Option Addr} {k : Nat} {R : Nat → RowAt} (h : RowsRaw w C k R) (hb : Below w.heap.size w w2) (hr : Row 5 (rx (jq R k)) w2 A (jn R k)) : RecsRaw w2 A (jn R k) (jq R k) := by
  have h1 := (jq_all (R := R) (p := fun x => LabRow w2 x.A x.r.l.length (La.at_ x.r.l) ∧ Wa.Words x.r ∧ x.r.l.length ≤ maxLen) k).2 (fun i hi j hj => ⟨((h.each i hi).labs j hj).later hb, (h.each i hi).words j hj, (h.each i hi).len j hj⟩)
  exact ⟨hr, fun i hi => (h1 i hi).1, fun i hi => (h1 i hi).2.1, fun i hi => (h1 i hi).2.2⟩
end Go.Proofs.Ytaillfnmaiiapaa
/-
  Rows of changes that came in, and how many these are.
-/
namespace Go.Proofs.Ytaillfnmaiiapaa
open Go.RowKit
open Go.ChangeShapes Go.WideShapes Go.Deep
theorem bulk_pos {H : Type} (d : DataW H) : 1 ≤ Rows.uptoBulk d := by
  cases d <;> (first | (simp [Rows.uptoBulk]; done) | (rename_i l; cases l <;> simp [Rows.uptoBulk]))
theorem bulk_mem {H : Type} {d : DataW H} {l : List (DataW H)} (h : d ∈ l) : Rows.uptoBulk d ≤ Rows.uptoBulkAll l := by
  induction l with
  | nil => cases h
  | cons x r ih =>
    simp only [Rows.uptoBulkAll]
    rcases List.mem_cons.1 h with e | e
    · subst e; omega
    · have := ih e; omega
theorem bulk_append {H : Type} (l r : List (DataW H)) : Rows.uptoBulkAll (l ++ r) = Rows.uptoBulkAll l + Rows.uptoBulkAll r := by
  induction l with
  | nil => simp [Rows.uptoBulkAll]
  | cons x l ih => simp only [List.cons_append, Rows.uptoBulkAll, ih]; omega
theorem bulk_count {H : Type} (l : List (DataW H)) : l.length ≤ Rows.uptoBulkAll l := by
  induction l with
  | nil => exact Nat.zero_le _
  | cons x r ih => have := bulk_pos x; simp only [Rows.uptoBulkAll, List.length_cons]; omega
theorem bulk_slice {H : Type} (l r : List (DataW H)) : Rows.uptoBulkAll l ≤ Rows.uptoBulk (.slice l r) := by simp only [Rows.uptoBulk]; omega
section
variable {H : Type} {enc : TypeId × Value → H} {w : World} {spare : Nat → Bool} {held : Bool}
set_option maxRecDepth 100000 in
theorem recs_count {fuel : Nat} {A : Option Addr} {n c : Nat} {x : DataW H × List MemPlace} (hf : DataW.trod enc Try.prog w 0 spare held fuel 25 [.slice A n c] = some x) : n ≤ Rows.uptoBulk x.1 := by
  rcases open_slice Try.underlying25 hf with ⟨hcs, _⟩ | ⟨a, len, cap, m, n', D, Pl, hcs, _, hl, hm, hmm, hx, hi⟩
  · cases hcs; exact Nat.zero_le _
  · cases hcs
    rw [hx]
    have h1 := bulk_slice ((List.range n).map D) ((List.range (m - n)).map fun j => D (n + j))
    have h2 := bulk_count ((List.range n).map D)
    rw [List.length_map, List.length_range] at h2
    exact Nat.le_trans h2 h1
def noRow : RowAt := ⟨none, 0, 0, fun _ => ⟨⟨0, [], 0, 0, 0⟩, none, 0⟩⟩
set_option maxRecDepth 100000 in
theorem open_rows {r : Reach} {b0 : Nat} {v : Value} {d : DataW H} {p : List MemPlace} (hv : Value.okWide Try.prog w r b0 22 v) (h : DataW.Trod enc Try.prog w 0 spare held 22 v d p) :
    ∃ (C : Option Addr) (k c : Nat) (R : Nat → RowAt), v = .slice C k c ∧ k ≤ maxLen ∧ RowsRaw w C k R ∧ jn R k ≤ Rows.uptoBulk d := by
  obtain ⟨C, n, c, rfl⟩ := okWide_slice Try.underlying22 hv
  obtain ⟨fuel, hf⟩ := h
  have hc1 : Try.prog.cellsOf 25 = 1 := by kernel_rfl
  rcases open_slice1 Try.underlying22 hc1 hf with ⟨hcs, _⟩ | ⟨a, len, cap, m, n', V, D, Pl, hcs, _, hl, hm, hmm, hx, hi⟩
  · simp [Value.cells] at hcs
    obtain ⟨rfl, rfl, rfl⟩ := hcs
    exact ⟨none, 0, 0, fun _ => noRow, rfl, by simp, ⟨fun h => absurd h (Nat.lt_irrefl 0), fun i hi => absurd hi (Nat.not_lt_zero i), fun i hi => absurd hi (Nat.not_lt_zero i), fun i hi => absurd hi (Nat.not_lt_zero i), fun i j hj => absurd hj (Nat.not_lt_zero j)⟩, Nat.zero_le _⟩
  · simp [Value.cells] at hcs
    obtain ⟨rfl, rfl, rfl⟩ := hcs
    have hlm : n ≤ m := by rw [hmm]; split <;> omega
    have : Inhabited RowAt := ⟨noRow⟩
    have each : ∀ i, i < m → ∃ q : RowAt, V i = .slice q.A q.n q.c ∧ q.n ≤ maxLen ∧ (q.A = none → q.n = 0 ∧ q.c = 0) ∧ RecsRaw w q.A q.n q.q ∧ q.n ≤ Rows.uptoBulk (D i) := fun i him => by
      obtain ⟨A, k, c2, f, e, h1, h2, h3⟩ := recs_of (hi i him).2
      have h4 := (hi i him).2
      rw [e] at h4
      exact ⟨⟨A, k, c2, f⟩, e, h1, h2, h3, recs_count h4⟩
    obtain ⟨q, hq⟩ := choose_lt each
    obtain ⟨R, hR⟩ : ∃ R : Nat → RowAt, R = fun i => if i < n then q i else noRow := ⟨_, rfl⟩
    have hlo : ∀ i, i < n → R i = q i := fun i hi => by rw [hR]; exact if_pos hi
    have hhi : ∀ i, ¬ i < n → R i = noRow := fun i hi => by rw [hR]; exact if_neg hi
    refine ⟨some a, n, c, R, rfl, Nat.le_trans hl hm, ⟨fun hn => ⟨a, rfl, ?_, fun i hin j hj => ?_⟩, fun i hin => ?_, fun i hin => ?_, fun i hin => ?_, fun i j hj => ?_⟩, ?_⟩
    · have := block_lt_of_cell (hi 0 (by omega)).1
      rwa [addr_block] at this
    · obtain rfl : j = 0 := by omega
      rw [Nat.mul_one, Nat.add_zero, (hi i (by omega)).1, (hq i (by omega)).1]
      unfold sx
      rw [hlo i hin]
    · rw [hlo i hin]; exact (hq i (by omega)).2.2.2.1
    · rw [hlo i hin]; exact (hq i (by omega)).2.1
    · rw [hlo i hin]; exact (hq i (by omega)).2.2.1
    · by_cases hin : i < n
      · rw [hlo i hin] at hj ⊢
        exact (hq i (by omega)).2.2.2.1.words j hj
      · rw [hhi i hin] at hj
        exact absurd hj (Nat.not_lt_zero j)
    · have h1 : ∀ k, k ≤ n → jn R k ≤ Rows.uptoBulkAll ((List.range k).map D) := by
        intro k
        induction k with
        | zero => intro _; exact Nat.zero_le _
        | succ k ih =>
          intro hk
          have h2 := ih (by omega)
          have h3 := (hq k (by omega)).2.2.2.2
          rw [List.range_succ, List.map_append, bulk_append]
          have h4 := bulk_mem (d := D k) (l := [D k]) (List.mem_singleton.2 rfl)
          show jn R k + (R k).n ≤ _
          rw [hlo k (by omega)]
          show _ ≤ _ + Rows.uptoBulkAll [D k]
          omega
      rw [(Prod.mk.inj hx).1]
      exact Nat.le_trans (h1 n (Nat.le_refl _)) (bulk_slice _ _)
end
end Go.Proofs.Ytaillfnmaiiapaa
/-
  The reference's SameRecs of changes that are alike; all changes of rows.
-/
namespace Go.Proofs.Ytaillfnmaiiapaa
open Go.RowKit
set_option maxRecDepth 100000 in
set_option maxHeartbeats 4000000 in
theorem rRec_any (r : Wa.Rec) (A B : Option Addr) (c d : Nat) (w : World) (hA : LabRow w A r.l.length (La.at_ r.l)) (hB : LabRow w B r.l.length (La.at_ r.l)) (hl : r.l.length ≤ 10) :
    Calls Try.prog 22 #[.agg (recC r A c), .agg (recC r B d)] w fun e w' => e = .returned (.bool true) ∧ Below w.heap.size w w' := by
  obtain ⟨kind, l, t, hi, v⟩ := r
  unfold recC
  simp only at hA hB hl ⊢
  obtain ⟨w1, hw1⟩ : ∃ w1, w1 = (w.alloc (.cells #[.int .i64 kind, .slice A l.length c, .int .i64 t, .int .i64 hi, .int .u64 (v : Int)] 52)).alloc (.cells #[.int .i64 kind, .slice B l.length d, .int .i64 t, .int .i64 hi, .int .u64 (v : Int)] 52) := ⟨_, rfl⟩
  have hb1 : Below w.heap.size w w1 := by rw [hw1]; exact ((Below.refl _ _).alloc (Nat.le_refl _) _).alloc (by simp) _
  have hx : w1.heap[w.heap.size]? = some (.cells #[.int .i64 kind, .slice A l.length c, .int .i64 t, .int .i64 hi, .int .u64 (v : Int)] 52 (0, 0)) := by rw [hw1]; exact heap_alloc2_old w _ _
  have hy : w1.heap[w.heap.size + 1]? = some (.cells #[.int .i64 kind, .slice B l.length d, .int .i64 t, .int .i64 hi, .int .u64 (v : Int)] 52 (0, 0)) := by rw [hw1]; exact heap_alloc2_new w _ _
  have hs := rSame_any A B l.length l.length c d (by unfold maxLen; omega) (La.at_ l) (La.at_ l) w1 (hA.later hb1) (hB.later hb1)
  have e1 : (decide (l.length = l.length) && La.same (La.at_ l) (La.at_ l) l.length) = true := by simp [La.same]
  rw [e1] at hs
  have HS := Lib.hid hs; have HB1 := Lib.hid hb1
  have x0 := cell_of_row _ _ 0 _ _ _ hx; have x1 := cell_of_row _ _ 1 _ _ _ hx; have x2 := cell_of_row _ _ 2 _ _ _ hx; have x3 := cell_of_row _ _ 3 _ _ _ hx; have x4 := cell_of_row _ _ 4 _ _ _ hx
  have y0 := cell_of_row _ _ 0 _ _ _ hy; have y1 := cell_of_row _ _ 1 _ _ _ hy; have y2 := cell_of_row _ _ 2 _ _ _ hy; have y3 := cell_of_row _ _ 3 _ _ _ hy; have y4 := cell_of_row _ _ 4 _ _ _ hy
  simp only [List.getElem?_toArray, List.getElem?_cons_zero, List.getElem?_cons_succ] at x0 x1 x2 x3 x4 y0 y1 y2 y3 y4
  clear hs hb1 hA hB hx hy e1
  go_enter Try.func22, Try.ntmps22
  go_upto_region 1 with fail
  rw [← hw1]
  clear hw1
  go_wp2_with fail
  refine HS.out.mono ?_; rintro e w2 ⟨rfl, hb2⟩
  have HB2 := Lib.hid (below_step HB1.out hb2)
  clear hb2
  go_wp2_with fail
  go_ret
  exact ⟨rfl, HB2.out⟩
theorem recF_at {q p : Nat → RAt} {n m : Nat} (h : (List.range n).map (recF q) = (List.range m).map (recF p)) : n = m ∧ ∀ i, i < n → (q i).r = (p i).r := by
  have hn : n = m := by simpa using congrArg List.length h
  subst hn
  refine ⟨rfl, fun i hi => ?_⟩
  have := congrArg (fun L => L[i]?) h
  simpa [hi, recF] using this
set_option maxRecDepth 100000 in
set_option maxHeartbeats 4000000 in
theorem rRecs_any (A B : Option Addr) (n m c d : Nat) (q p : Nat → RAt) (w : World) (hA : RecsIn w A n q) (hB : RecsIn w B m p) (hn : n ≤ 100000) (he : (List.range n).map (recF q) = (List.range m).map (recF p)) :
    Calls Try.prog 13 #[.slice A n c, .slice B m d] w fun e w' => e = .returned (.bool true) ∧ Below w.heap.size w w' := by
  obtain ⟨hnm, hall⟩ := recF_at he
  subst hnm
  have HA := Lib.hid hA; have HB := Lib.hid hB; have HALL := Lib.hid hall
  clear hA hB hall he
  have d0 : (((n : Nat) : Int) != ((n : Nat) : Int)) = false := by simp
  have d0b : decide (((n : Nat) : Int) = ((n : Nat) : Int)) = true := by simp
  go_enter Try.func13, Try.ntmps13
  go_wp2_with fail
  go_loopw [5] (fun i wr => ∃ k : Nat, k ≤ n ∧ i = .int .i64 k ∧ Below w.heap.size w wr) (fun i _ => n - (intOf i).toNat)
  case atStart => exact ⟨0, by omega, rfl, Below.refl _ _⟩
  case round =>
    obtain ⟨k, hk, rfl, hb⟩ := hrel
    have HBL := Lib.hid hb; clear hb
    have i0 : (0 : Int) ≤ (k : Int) := by omega
    by_cases hlt : k < n
    · obtain ⟨ad, rfl, x0, x1, x2, x3, x4⟩ := HA.out.cells HBL.out hlt
      obtain ⟨bd, rfl, y0, y1, y2, y3, y4⟩ := HB.out.cells HBL.out hlt
      have i1 : (k : Int) < (n : Int) := by omega
      have d1 : decide ((k : Int) < (n : Int)) = true := decide_eq_true i1
      have HX : Hid (∀ U, Below wr.heap.size wr U → U.cell? (ad.add (k * 5)) = some (.int .i64 (q k).r.kind) ∧ U.cell? ⟨(ad.add (k * 5)).block, (ad.add (k * 5)).off + 1, none⟩ = some (.slice (q k).A (q k).r.l.length (q k).c) ∧ U.cell? ⟨(ad.add (k * 5)).block, (ad.add (k * 5)).off + 2, none⟩ = some (.int .i64 (q k).r.t) ∧ U.cell? ⟨(ad.add (k * 5)).block, (ad.add (k * 5)).off + 3, none⟩ = some (.int .i64 (q k).r.hi) ∧ U.cell? ⟨(ad.add (k * 5)).block, (ad.add (k * 5)).off + 4, none⟩ = some (.int .u64 ((q k).r.v : Int))) := Lib.hid (fun U hU => ⟨cell_keep x0 hU, cell_keep x1 hU, cell_keep x2 hU, cell_keep x3 hU, cell_keep x4 hU⟩)
      have HY : Hid (∀ U, Below wr.heap.size wr U → U.cell? (bd.add (k * 5)) = some (.int .i64 (p k).r.kind) ∧ U.cell? ⟨(bd.add (k * 5)).block, (bd.add (k * 5)).off + 1, none⟩ = some (.slice (p k).A (p k).r.l.length (p k).c) ∧ U.cell? ⟨(bd.add (k * 5)).block, (bd.add (k * 5)).off + 2, none⟩ = some (.int .i64 (p k).r.t) ∧ U.cell? ⟨(bd.add (k * 5)).block, (bd.add (k * 5)).off + 3, none⟩ = some (.int .i64 (p k).r.hi) ∧ U.cell? ⟨(bd.add (k * 5)).block, (bd.add (k * 5)).off + 4, none⟩ = some (.int .u64 ((p k).r.v : Int))) := Lib.hid (fun U hU => ⟨cell_keep y0 hU, cell_keep y1 hU, cell_keep y2 hU, cell_keep y3 hU, cell_keep y4 hU⟩)
      have hr := HALL.out k hlt
      have hqa := (HA.out.each k hlt).later HBL.out; have hpb := (HB.out.each k hlt).later HBL.out
      rw [← hr] at hpb
      have HR := Lib.hid (fun U (hU : Below wr.heap.size wr U) => rRec_any (q k).r (q k).A (p k).A (q k).c (p k).c U (hqa.row.later hU) (hpb.row.later hU) hqa.len)
      unfold recC at HR
      rw [← hr] at HY
      clear x0 x1 x2 x3 x4 y0 y1 y2 y3 y4 hr hqa hpb
      go_wp2_with fail
      refine plain_T (fun U => Below wr.heap.size wr U) [] (by kernel_rfl) ?_
      have HD : Hid (Below wr.heap.size wr wr.drew) := Lib.hid (Below.refl _ _).drew
      generalize wr.drew = wd at HD ⊢
      refine wpAnyT_pick (S := (fun U => Below wr.heap.size wr U)) (by kernel_rfl) Only.panic Only.keepsIn (w := wd) HD.out [0, 1, 2, 3, 4, 5, 6, 7] 2 _ _ (by kernel_rfl) ?_
      refine PickT.value (d := some 17) (.slice (some ad) n c) rfl rfl (by kernel_rfl) (fun U hU => (by go_simp)) ?_
      refine PickT.value (d := some 18) (.int .i64 (k : Int)) rfl rfl (by kernel_rfl) (fun U hU => (by go_simp)) ?_
      refine PickT.value (d := some 19) (.pointer (some (ad.add (k * 5)))) rfl rfl (by kernel_rfl) (fun U hU => (by go_simp)) ?_
      refine PickT.value (d := some 20) (.agg #[.int .i64 (q k).r.kind, .slice (q k).A (q k).r.l.length (q k).c, .int .i64 (q k).r.t, .int .i64 (q k).r.hi, .int .u64 ((q k).r.v : Int)]) rfl rfl (by kernel_rfl) (fun U hU => (by obtain ⟨h0, h1, h2, h3, h4⟩ := HX.out U hU; go_simp)) ?_
      refine PickT.value (d := some 21) (.slice (some bd) n d) rfl rfl (by kernel_rfl) (fun U hU => (by go_simp)) ?_
      refine PickT.value (d := some 22) (.int .i64 (k : Int)) rfl rfl (by kernel_rfl) (fun U hU => (by go_simp)) ?_
      refine PickT.value (d := some 23) (.pointer (some (bd.add (k * 5)))) rfl rfl (by kernel_rfl) (fun U hU => (by go_simp)) ?_
      refine PickT.value (d := some 24) (.agg #[.int .i64 (q k).r.kind, .slice (p k).A (q k).r.l.length (p k).c, .int .i64 (q k).r.t, .int .i64 (q k).r.hi, .int .u64 ((q k).r.v : Int)]) rfl rfl (by kernel_rfl) (fun U hU => (by obtain ⟨h0, h1, h2, h3, h4⟩ := HY.out U hU; go_simp)) ?_
      simp only [PickT, Act.put, List.setIfInBounds_toArray, List.set_cons_zero, List.set_cons_succ]
      refine wpAnyT_one (i := 8) (by kernel_rfl) rfl (by kernel_rfl) ?_
      intro K hK
      unfold Oper.wp
      go_simp
      refine (HR.out _ HD.out).mono ?_; rintro e w9 ⟨rfl, hb9⟩
      have HB9 := Lib.hid (below_step HD.out hb9)
      clear hb9 HR
      refine hK _ _ (fun _ => HB9.out) ?_
      clear hK K
      refine wpAnyT_pick (S := (fun U => Below wr.heap.size wr U)) (by kernel_rfl) Only.panic Only.keepsIn (w := w9) HB9.out [9] 0 _ _ (by kernel_rfl) ?_
      refine PickT.value (d := some 26) (.bool false) rfl rfl (by kernel_rfl) (fun U hU => (by go_simp)) ?_
      simp only [PickT, Act.put, List.setIfInBounds_toArray, List.set_cons_zero, List.set_cons_succ]
      refine wpAnyT_done (by kernel_rfl) ?_ _
      refine only_mk ?_
      have HBN := Lib.hid (below_step HBL.out HB9.out)
      go_wp2_with fail
      go_roundw
      case rel => exact ⟨k + 1, by omega, by go_num, HBN.out⟩
      case measure => simp [intOf]; omega
    · have d1 : decide ((k : Int) < (n : Int)) = false := decide_eq_false (by omega)
      go_wp2_with fail
      go_ret
      exact ⟨rfl, HBL.out⟩
/-- a row behind a row of the call's own, of more elements -/
theorem wpList_append_rowB {ops : Array Oper} {rest : List Oper} {o : Oper} {a : Act} {Q : Exit → Act → World → Prop} (w : World) (hgd : o.guard = none) (s y : Operand) (T E : TypeId)
    (ho : o.op = .call { callee := .builtin .append, args := #[s, y], argTypes := #[T, T] })
    (k by_ : Nat) (z : Value) (ht : Try.prog.underlying T = some (.slice E)) (hinfo : (Try.prog.info? E).map (fun i => (i.zero, i.size, i.bytes)) = some (some z, k, by_)) (hzs : z.cells.size = k) (hk : 0 < k) (hby : by_ ≤ 1000)
    (base : Nat) (v : Value) (n0 : Nat) (xs : List Value) (hs : a.eval s = v) (hown : w.ownsRow base E k v n0 xs)
    (A : Option Addr) (n c : Nat) (x : Nat → Nat → Value) (hx1 : ∀ i j, (x i j).oneCell' = true) (hy : a.eval y = .slice A n c) (hA : Row k x w A n) (hnone : A = none → n = 0 ∧ c = 0) (hsz : n0 + n ≤ 2000000) (hbase : base ≤ w.heap.size)
    (h : ∀ v' w', w'.ownsRow base E k v' (n0 + n) (xs ++ rcells k x n) → w.grownBy w' v.ownBlock → wpList Try.prog ops Q rest (a.put o.dst v') w') : wpList Try.prog ops Q (o :: rest) a w := by
  obtain ⟨i0, hi0, hz0, hz1, hz2⟩ := info_parts hinfo
  cases A with
  | none =>
    obtain ⟨rfl, rfl⟩ := hnone rfl
    refine wpList_append_own_none hgd s y T ho base E i0 k ht hi0 v n0 xs hs hown hy ?_
    exact h v w (by rw [Nat.add_zero]; have e : rcells k x 0 = [] := rfl; rw [e, List.append_nil]; exact hown) (grown_refl _ _)
  | some ad =>
    have hb2 : (n0 + n) * by_ ≤ 2000000 * 1000 := Nat.mul_le_mul hsz hby
    exact wpList_append_own w hgd s y T ho base E i0 z k by_ ht hi0 hz0 hz1 hz2 hzs hk v n0 xs hs hown ad n c (rcells k x n) hy (rcells_length k x n) (hA.cells hk) (rcells_one hx1 n) (by unfold maxLen; omega) (by omega) hbase (fun v' w' h1 h2 _ => h v' w' h1 h2)
set_option maxRecDepth 100000 in
set_option maxHeartbeats 4000000 in
theorem joined_any (C : Option Addr) (n c : Nat) (R : Nat → RowAt) (w : World) (hA : RowsRaw w C n R) (hn : n ≤ 1000) (hj : jn R n ≤ 1048576) :
    Calls Try.prog 10 #[.slice C n c] w fun e w' => ∃ A d, e = .returned (.slice A (jn R n) d) ∧ RecsRaw w' A (jn R n) (jq R n) ∧ Below w.heap.size w w' := by
  have HA := Lib.hid hA; have HJ := Lib.hid hj
  clear hA hj
  go_enter Try.func10, Try.ntmps10
  go_wp2_with fail
  go_loopw [3, 4] (fun o i wr => ∃ k : Nat, k ≤ n ∧ i = .int .i64 k ∧ wr.ownsRow w.heap.size 52 5 o (jn R k) (rcells 5 (rx (jq R k)) (jn R k)) ∧ Below w.heap.size w wr) (fun _ i _ => n - (intOf i).toNat)
  case atStart => exact ⟨0, by omega, rfl, World.ownsRow_nil _ _ _ _, Below.refl _ _⟩
  case round =>
    obtain ⟨k, hk, rfl, ho, hb⟩ := hrel
    have HBL := Lib.hid hb; have HO := Lib.hid ho
    have i0 : (0 : Int) ≤ (k : Int) := by omega
    clear hb ho
    by_cases hlt : k < n
    · obtain ⟨ad, rfl, x0, -⟩ := HA.out.row.at_ HBL.out hlt
      have x0 := x0 (by omega)
      rw [Nat.mul_one] at x0
      have x0 : wr.cell? (ad.add k) = some (.slice (R k).A (R k).n (R k).c) := x0
      have i1 : (k : Int) < (n : Int) := by omega
      have d1 : decide ((k : Int) < (n : Int)) = true := decide_eq_true i1
      have HROW : Hid (Row 5 (rx (R k).q) wr (R k).A (R k).n) := Lib.hid ((HA.out.each k hlt).row.later HBL.out)
      have HNIL := Lib.hid (HA.out.nil k hlt)
      have HSZ : Hid (jn R k + (R k).n ≤ 2000000) := Lib.hid (Nat.le_trans (Nat.le_trans (jn_mono R (show k + 1 ≤ n from hlt)) HJ.out) (by decide))
      have HW : Hid (w.heap.size ≤ wr.heap.size) := Lib.hid HBL.out.size
      go_wp2_with (at_builtin; go_must (refine wpList_append_rowB _ rfl _ _ 25 52 rfl 5 56 (.agg #[.int .i64 0, .slice none 0 0, .int .i64 0, .int .i64 0, .int .u64 0]) Try.underlying25 infoRec rfl (by decide) (by decide) w.heap.size _ (jn R k) (rcells 5 (rx (jq R k)) (jn R k)) rfl HO.out (R k).A (R k).n (R k).c (rx (R k).q) (rx_one (R k).q) rfl HROW.out HNIL.out HSZ.out HW.out ?_); intro v4 w4 hown4 hg4; have H4 := Lib.hid hown4; have G4 := Lib.hid hg4; clear hown4 hg4)
      go_roundw
      case rel =>
        refine ⟨k + 1, by omega, by go_num, by have := H4.out; rw [← rcells_jq] at this; exact this, ?_⟩
        exact HBL.out.grown G4.out HBL.out.size (fun r e => (HO.out.lt r e).1)
      case measure => simp [intOf]; omega
    · obtain rfl : k = n := by omega
      have d1 : decide ((k : Int) < (k : Int)) = false := decide_eq_false (by omega)
      go_wp2_with fail
      go_ret
      obtain ⟨A, d, rfl, -, -, -, hr⟩ := own_row HO.out
      exact ⟨A, d, rfl, HA.out.joined HBL.out hr, HBL.out⟩
end Go.Proofs.Ytaillfnmaiiapaa
