import Derived.Test.YtaillfnmaiiapaaWaWb
import Derived.Test.YtaillfnmaiiapaaFrI
/-
  Read: what the walk needs of mathematics, and what it holds.
-/
namespace Go.Proofs.Ytaillfnmaiiapaa
open Go.RowKit
theorem Wa.run3_keys {n a m : Nat} : ∀ (f : Nat) (z : Wa.St3), z.K.length ≤ a + z.l.length → (∀ k ∈ z.K, k.size ≤ m) → z.c.s.size ≤ m → (Wa.run3 n f z).K.length ≤ a + (Wa.run3 n f z).l.length ∧ (Wa.run3 n f z).l.length ≤ z.l.length + f ∧ ∀ k ∈ (Wa.run3 n f z).K, k.size ≤ m
  | 0, z, h, hk, _ => ⟨h, Nat.le_refl _, hk⟩
  | f + 1, z, h, hk, hc => by
    by_cases hg : z.l.length < n ∧ z.c.bad = false
    · rw [Wa.run3_go hg]
      have h1 := Wa.rd_keys (two := false) (t := z.t) (v := z.v) (c := z.c) hk hc
      have h2 := Wa.rd_size false z.K z.t z.v z.c
      have el : (Wa.step3 z).l.length = z.l.length + 1 := by rw [Wa.step3_tv]; simp
      have eK : (Wa.step3 z).K = (Wa.rd false z.K z.t z.v z.c).2.1 := by rw [Wa.step3_tv]
      have ec : (Wa.step3 z).c = (Wa.rd false z.K z.t z.v z.c).2.2 := by rw [Wa.step3_tv]
      have := Wa.run3_keys (n := n) (a := a) (m := m) f (Wa.step3 z) (by rw [el, eK]; omega) (by rw [eK]; exact h1.2) (by rw [ec]; omega)
      rw [el] at this
      exact ⟨this.1, by omega, this.2.2⟩
    · rw [Wa.run3_stop hg]
      exact ⟨h, by omega, hk⟩
theorem List.single_le_sum' {K : List ByteArray} {k : ByteArray} (h : k ∈ K) : k.size ≤ (K.map (·.size)).sum := by
  induction K with
  | nil => cases h
  | cons a K ih =>
    rw [List.map_cons, List.sum_cons]
    rcases List.mem_cons.1 h with e | e
    · rw [e]; omega
    · have := ih e; omega
theorem Wa.take_keys {g : Int} {K : List ByteArray} {s : ByteArray} {m : Nat} (hK : ∀ k ∈ K, k.size ≤ m) (hs : s.size ≤ m) : (∀ k ∈ (Wa.take g K s).2.1, k.size ≤ m) ∧ ((Wa.take g K s).2.2.2 = 0 → (Wa.take g K s).2.1.length + (Wa.take g K s).2.2.1.size ≤ K.length + s.size) ∧ (Wa.take g K s).2.2.1.size ≤ s.size := by
  have hgz : (Fr.get s 20000).2.2 = 0 → (Fr.get s 20000).1.size + 5 + (Fr.get s 20000).2.1.size ≤ s.size := fun h => by
    have h1 := (Fr.get_whole s 20000 h).1
    have h2 := congrArg ByteArray.size h1
    rw [ByteArray.size_append, Fr.put_size] at h2
    have := Num.small_pos (Fr.get s 20000).1.size
    omega
  unfold Wa.take
  by_cases h1 : g = 1
  · rw [if_pos h1]
    refine ⟨hK, ?_, ?_⟩
    · unfold Wa.take1
      split
      · intro h; cases h
      · split
        · intro _; show K.length + (s.extract 186 s.size).size ≤ _; rw [ByteArray.size_extract]; omega
        · intro h; cases h
    · unfold Wa.take1
      split
      · exact Nat.le_refl _
      · split
        · show (s.extract 186 s.size).size ≤ _; rw [ByteArray.size_extract]; omega
        · exact Nat.le_refl _
  · rw [if_neg h1]
    by_cases h2 : g = 2
    · rw [if_pos h2]
      unfold Wa.take2
      by_cases h3 : (Fr.get s 20000).2.2 = 0
      · rw [if_pos h3]
        have hz := hgz h3
        have hk := Wa.rd_keys (two := true) (K := K) (t := 0) (v := 0) (c := ⟨(Fr.get s 20000).1, false⟩) (m := m) hK (by show (Fr.get s 20000).1.size ≤ m; omega)
        split
        · exact ⟨hk.2, fun _ => by have := hk.1; show (Wa.rd true K 0 0 _).2.1.length + (Fr.get s 20000).2.1.size ≤ _; omega, by show (Fr.get s 20000).2.1.size ≤ _; omega⟩
        · exact ⟨hk.2, fun h => (by cases h), Nat.le_refl _⟩
      · rw [if_neg h3]
        exact ⟨hK, fun h => absurd h h3, Nat.le_refl _⟩
    · rw [if_neg h2]
      unfold Wa.take3
      by_cases h3 : (Fr.get s 20000).2.2 = 0
      · rw [if_pos h3]
        have hz := hgz h3
        have hsm := Wa.small_size ⟨(Fr.get s 20000).1, false⟩
        have hk := Wa.run3_keys (n := (Wa.Cu.small ⟨(Fr.get s 20000).1, false⟩).1) (a := K.length) (m := m) ((Fr.get s 20000).1.size + 1) ⟨[], K, 0, 0, (Wa.Cu.small ⟨(Fr.get s 20000).1, false⟩).2⟩ (Nat.le_refl _) hK (by show (Wa.Cu.small ⟨(Fr.get s 20000).1, false⟩).2.s.size ≤ m; dsimp only at hsm; omega)
        have e : Wa.did3 K (Fr.get s 20000).1 = Wa.run3 (Wa.Cu.small ⟨(Fr.get s 20000).1, false⟩).1 ((Fr.get s 20000).1.size + 1) ⟨[], K, 0, 0, (Wa.Cu.small ⟨(Fr.get s 20000).1, false⟩).2⟩ := rfl
        rw [← e] at hk
        have h5 : (Wa.did3 K (Fr.get s 20000).1).l.length ≤ 0 + ((Fr.get s 20000).1.size + 1) := hk.2.1
        split
        · exact ⟨hk.2.2, fun _ => by have := hk.1; show (Wa.did3 K _).K.length + (Fr.get s 20000).2.1.size ≤ _; omega, by show (Fr.get s 20000).2.1.size ≤ _; omega⟩
        · exact ⟨hk.2.2, fun h => (by cases h), Nat.le_refl _⟩
      · rw [if_neg h3]
        exact ⟨hK, fun h => absurd h h3, Nat.le_refl _⟩
theorem Wa.take_recs {g : Int} {K : List ByteArray} {s : ByteArray} : (Wa.take g K s).1.length + (Wa.take g K s).2.2.1.size ≤ s.size := by
  have hgz : (Fr.get s 20000).2.2 = 0 → (Fr.get s 20000).1.size + 5 + (Fr.get s 20000).2.1.size ≤ s.size := fun h => by
    have h1 := (Fr.get_whole s 20000 h).1
    have h2 := congrArg ByteArray.size h1
    rw [ByteArray.size_append, Fr.put_size] at h2
    have := Num.small_pos (Fr.get s 20000).1.size
    omega
  have h0 : ([] : List Wa.Rec).length + s.size ≤ s.size := by show 0 + s.size ≤ s.size; omega
  unfold Wa.take
  by_cases h1 : g = 1
  · rw [if_pos h1]
    unfold Wa.take1
    split
    · exact h0
    · split
      · show 1 + (s.extract 186 s.size).size ≤ _; rw [ByteArray.size_extract]; omega
      · exact h0
  · rw [if_neg h1]
    by_cases h2 : g = 2
    · rw [if_pos h2]
      unfold Wa.take2
      by_cases h3 : (Fr.get s 20000).2.2 = 0
      · rw [if_pos h3]
        have hz := hgz h3
        split
        · show 1 + (Fr.get s 20000).2.1.size ≤ _; omega
        · exact h0
      · rw [if_neg h3]; exact h0
    · rw [if_neg h2]
      unfold Wa.take3
      by_cases h3 : (Fr.get s 20000).2.2 = 0
      · rw [if_pos h3]
        have hz := hgz h3
        have hk := Wa.run3_keys (n := (Wa.Cu.small ⟨(Fr.get s 20000).1, false⟩).1) (a := K.length) (m := K.length + s.size + (K.map (·.size)).sum) ((Fr.get s 20000).1.size + 1) ⟨[], K, 0, 0, (Wa.Cu.small ⟨(Fr.get s 20000).1, false⟩).2⟩ (Nat.le_refl _) (fun k hk => by have := List.single_le_sum' (show k ∈ K from hk); omega) (by have hsm := Wa.small_size ⟨(Fr.get s 20000).1, false⟩; show (Wa.Cu.small ⟨(Fr.get s 20000).1, false⟩).2.s.size ≤ _; dsimp only at hsm; omega)
        have e : Wa.did3 K (Fr.get s 20000).1 = Wa.run3 (Wa.Cu.small ⟨(Fr.get s 20000).1, false⟩).1 ((Fr.get s 20000).1.size + 1) ⟨[], K, 0, 0, (Wa.Cu.small ⟨(Fr.get s 20000).1, false⟩).2⟩ := rfl
        rw [← e] at hk
        have h5 : (Wa.did3 K (Fr.get s 20000).1).l.length ≤ 0 + ((Fr.get s 20000).1.size + 1) := hk.2.1
        split
        · show (Wa.did3 K _).l.length + (Fr.get s 20000).2.1.size ≤ _; omega
        · exact h0
      · rw [if_neg h3]; exact h0
theorem Wa.allOk_err (g : Int) (L : List Wa.Rec) (f : Nat → Wa.Rec) (n : Nat) (h : L = (List.range n).map f) : Wa.allOk g L = decide (Wa.firstErr f g n = 0) := by
  subst h
  rw [Bool.eq_iff_iff, decide_eq_true_eq, Wa.firstErr_ok]
  unfold Wa.allOk
  rw [List.all_eq_true]
  constructor
  · intro h i hi
    have := h (f i) (List.mem_map.2 ⟨i, List.mem_range.2 hi, rfl⟩)
    simpa using this
  · intro h x hx
    obtain ⟨i, hi, rfl⟩ := List.mem_map.1 hx
    simpa using h i (List.mem_range.1 hi)
/-- changes that were read, in a world -/
structure Got (U : World) (b1 base : Nat) (lv : Value) (L : List Wa.Rec) (q : Nat → RAt) : Prop where
  row : U.ownsRow b1 52 5 lv L.length (rcells 5 (rx q) L.length)
  list : L = (List.range L.length).map (recF q)
  each : ∀ i, i < L.length → RecOwn U base (q i)
theorem Got.rk {U V : World} {b1 base mb : Nat} {lv : Value} {L : List Wa.Rec} {q : Nat → RAt} (h : Got U b1 base lv L q) (hk : RKeeps mb U V) (hm : ∀ e cs fr, U.heap[mb]? ≠ some (.cells cs e fr)) : Got V b1 base lv L q :=
  ⟨own_rkeeps h.row hk (hm _) (by decide), h.list, fun i hi => (h.each i hi).kept hk (hm _)⟩
theorem Got.later {U V : World} {b1 base : Nat} {lv : Value} {L : List Wa.Rec} {q : Nat → RAt} (h : Got U b1 base lv L q) (hb : Below U.heap.size U V) : Got V b1 base lv L q :=
  ⟨row_far h.row hb, h.list, fun i hi => (h.each i hi).later hb⟩
def qBoth (q p : Nat → RAt) (n i : Nat) : RAt := if i < n then q i else p (i - n)
theorem rx_both (q p : Nat → RAt) (n : Nat) : ∀ k, rcells 5 (rx q) n ++ rcells 5 (rx p) k = rcells 5 (rx (qBoth q p n)) (n + k)
  | 0 => by
    show rcells 5 (rx q) n ++ [] = _
    rw [List.append_nil]
    refine rcells_congr n fun i hi j _ => ?_
    have : qBoth q p n i = q i := if_pos hi
    unfold rx
    rw [this]
  | k + 1 => by
    rw [rcells_succ, ← List.append_assoc, rx_both q p n k, ← Nat.add_assoc, rcells_succ 5 (rx (qBoth q p n)) (n + k)]
    congr 1
    refine List.map_congr_left fun j _ => ?_
    have : qBoth q p n (n + k) = p k := by unfold qBoth; rw [if_neg (by omega)]; congr 1; omega
    unfold rx
    rw [this]
/-- .. and more behind them -/
theorem Got.more {U V : World} {b1 base : Nat} {lv lv2 : Value} {L M : List Wa.Rec} {q p : Nat → RAt} (h : Got U b1 base lv L q) (hM : M = (List.range M.length).map (recF p)) (hp : ∀ i, i < M.length → RecOwn U base (p i)) (hV : V.ownsRow b1 52 5 lv2 (L.length + M.length) (rcells 5 (rx q) L.length ++ rcells 5 (rx p) M.length)) (hg : U.grownBy V lv.ownBlock) : Got V b1 base lv2 (L ++ M) (qBoth q p L.length) := by
  have kept : ∀ x, RecOwn U base x → RecOwn V base x := fun x hx => hx.of_own (row_kept hx.own hg (fun r e => row_apart hx.own h.row (by decide) e))
  refine ⟨?_, ?_, fun i hi => ?_⟩
  · rw [List.length_append, ← rx_both]; exact hV
  · rw [List.length_append, List.range_add, List.map_append, List.map_map]
    congr 1
    · refine h.list.trans (List.map_congr_left fun i hi => ?_)
      have : i < L.length := List.mem_range.1 hi
      unfold recF qBoth
      rw [if_pos this]
    · refine hM.trans (List.map_congr_left fun i _ => ?_)
      show recF p i = recF (qBoth q p L.length) (L.length + i)
      unfold recF qBoth
      rw [if_neg (by omega), show L.length + i - L.length = i from by omega]
  · rw [List.length_append] at hi
    unfold qBoth
    by_cases hl : i < L.length
    · rw [if_pos hl]; exact kept _ (h.each i hl)
    · rw [if_neg hl]; exact kept _ (hp _ (by omega))
/-- what a segment tells, behind its head -/
def Wa.sgOf (s : ByteArray) (gen flags : Nat) : Option (List Wa.Rec × List ByteArray × ByteArray) → Wa.Sg
  | none => Wa.noSg 9
  | some x => ⟨gen, flags, x.2.1, x.1, s.size - x.2.2.size, decide (x.2.2.size ≠ 0), 0⟩
theorem Wa.read_sg (s : ByteArray) : Wa.read s = if (Fr.opened s Wa.magic).2.2.2 = 0 then Wa.sgOf s (Fr.opened s Wa.magic).1 (Fr.opened s Wa.magic).2.1 (Wa.scanD ((Fr.opened s Wa.magic).1 : Nat) [] [] (Fr.opened s Wa.magic).2.2.1) else Wa.noSg (Fr.opened s Wa.magic).2.2.2 := by
  unfold Wa.read
  generalize Wa.scanD _ [] [] _ = x
  cases x <;> rfl
/-- what Read comes to -/
def ReadDone (w : World) (R : Wa.Sg) (e : Ending) (V : World) : Prop :=
  ∃ lv kv q, e = .returned (.tuple #[.agg #[.int .i64 (R.flags : Int), lv, .int .i64 (R.used : Int), .bool R.torn, .int .i64 (R.gen : Int), kv], .int .i64 (R.err : Int)]) ∧ Got V w.heap.size w.heap.size lv R.recs q ∧ V.ownsRow w.heap.size 9 1 kv R.keys.length (rcells 1 (kx R.keys) R.keys.length) ∧ Below w.heap.size w V
end Go.Proofs.Ytaillfnmaiiapaa
/-
  Read: the walk.
-/
namespace Go.Proofs.Ytaillfnmaiiapaa
open Go.RowKit
theorem seg_size : (Try.prog.info? 34).map (·.size) = some 6 := by kernel_rfl
theorem seg_results {fn : Func} {p t : Tmp} (h : fn.results = #[.cell p 34, .tmp t]) (tmps : Array Value) (w : World) (g : Nat) (a b c d e f v : Value) (hp : tmps.getD p undef = .pointer (some ⟨g, 0, none⟩)) (hv : tmps.getD t undef = v) (hg : w.heap[g]? = some (.cells #[a, b, c, d, e, f] 34 (0, 0))) :
    (results fn tmps).run Try.prog w = .ok (.tuple #[.agg #[a, b, c, d, e, f], v]) w := by
  subst hv
  exact results_cell_tmp h tmps w g _ #[a, b, c, d, e, f] _ (.struct (Try.prog.fieldsOf 34)) hp hg (by kernel_rfl) rfl seg_size
/-- a row of six cells, written cell by cell -/
theorem store6 {w : World} {b : Nat} {a0 a1 a2 a3 a4 a5 : Value} {T : TypeId} (h : w.heap[b]? = some (.cells #[a0, a1, a2, a3, a4, a5] T (0, 0))) (v0 v1 v2 v3 v4 v5 : Value) :
    ((((((w.setCell ⟨b, 0, none⟩ v0).setCell ⟨b, 1, none⟩ v1).setCell ⟨b, 2, none⟩ v2).setCell ⟨b, 3, none⟩ v3).setCell ⟨b, 4, none⟩ v4).setCell ⟨b, 5, none⟩ v5).heap[b]? = some (.cells #[v0, v1, v2, v3, v4, v5] T (0, 0)) ∧
      w.grownBy ((((((w.setCell ⟨b, 0, none⟩ v0).setCell ⟨b, 1, none⟩ v1).setCell ⟨b, 2, none⟩ v2).setCell ⟨b, 3, none⟩ v3).setCell ⟨b, 4, none⟩ v4).setCell ⟨b, 5, none⟩ v5) (some b) := by
  have h0 := heap_setCell_same w b 0 _ _ v0 h
  have h1 := heap_setCell_same _ b 1 _ _ v1 h0
  have h2 := heap_setCell_same _ b 2 _ _ v2 h1
  have h3 := heap_setCell_same _ b 3 _ _ v3 h2
  have h4 := heap_setCell_same _ b 4 _ _ v4 h3
  have h5 := heap_setCell_same _ b 5 _ _ v5 h4
  exact ⟨h5, grown_trans (grown_trans (grown_trans (grown_trans (grown_trans (grown_setCell w b 0 v0) (grown_setCell _ b 1 v1)) (grown_setCell _ b 2 v2)) (grown_setCell _ b 3 v3)) (grown_setCell _ b 4 v4)) (grown_setCell _ b 5 v5)⟩
def strLen : Value → Nat
  | .string s => s.size
  | _ => 0
def zeroSeg : Array Value := #[.int .i64 0, .slice none 0 0, .int .i64 0, .bool false, .int .i64 0, .slice none 0 0]
/-- nothing was read -/
theorem ReadDone.no {w V : World} {e : Nat} (hb : Below w.heap.size w V) : ReadDone w (Wa.noSg e) (.returned (.tuple #[.agg zeroSeg, .int .i64 (e : Int)])) V :=
  ⟨.slice none 0 0, .slice none 0 0, fun _ => ⟨⟨0, [], 0, 0, 0⟩, none, 0⟩, rfl, ⟨World.ownsRow_nil _ _ _ _, rfl, fun i hi => absurd hi (Nat.not_lt_zero i)⟩, World.ownsRow_nil _ _ _ _, hb⟩
set_option maxRecDepth 100000 in
set_option maxHeartbeats 1000000 in
theorem wRead_any (s : ByteArray) (hs : s.size ≤ 700000) (w : World) : Calls Try.prog 12 #[.string s] w (ReadDone w (Wa.read s)) := by
  have HOP := Lib.hid (fun W => Open_any s (by unfold maxLen; omega) Wa.magic (by decide) W)
  unfold Four at HOP
  have hrd := Wa.read_sg s
  have hmore := Wa.opened_more s
  obtain ⟨R, hR⟩ : ∃ R, R = Wa.read s := ⟨_, rfl⟩
  rw [← hR] at hrd ⊢
  clear hR
  obtain ⟨O, hO⟩ : ∃ O, O = Fr.opened s Wa.magic := ⟨_, rfl⟩
  rw [← hO] at hrd HOP hmore
  clear hO
  obtain ⟨gen, flags, rest0, err⟩ := O
  simp only at hrd HOP hmore
  have HRD := Lib.hid hrd
  have HMORE := Lib.hid hmore
  clear hrd hmore
  go_enter Try.func12, Try.ntmps12
  go_wp2_with fail
  obtain ⟨wa, hwa⟩ : ∃ wa, wa = w.alloc (.cells zeroSeg 34) := ⟨_, rfl⟩
  have hba : Below w.heap.size w wa := by rw [hwa]; exact (Below.refl _ _).alloc (Nat.le_refl _) _
  have hxa : wa.heap[w.heap.size]? = some (.cells zeroSeg 34 (0, 0)) := by rw [hwa]; exact heap_alloc_new w _
  unfold zeroSeg at hwa
  rw [← hwa]
  obtain ⟨ob, hob⟩ : ∃ ob, ob = w.heap.size := ⟨_, rfl⟩
  rw [← hob] at hxa ⊢
  have HOB := Lib.hid hob
  have HBA := Lib.hid hba; have HXA := Lib.hid hxa
  clear hwa hba hxa hob
  refine (HOP.out wa).mono ?_; rintro e w1 ⟨rfl, hb1⟩
  have HB1 := Lib.hid (below_step HBA.out hb1); have HX1 := Lib.hid (heap_keep HXA.out hb1)
  clear hb1 HBA HXA HOP
  by_cases he : err = 0
  · subst he
    obtain ⟨X0, hX0⟩ : ∃ X0, X0 = Wa.scanD ((gen : Nat) : Int) [] [] rest0 := ⟨_, rfl⟩
    have HRD2 : Hid (R = Wa.sgOf s gen flags X0) := Lib.hid (by rw [HRD.out, if_pos rfl, hX0])
    have HX0 := Lib.hid hX0
    have hm0 := (HMORE.out rfl).1
    clear HRD hX0
    have HFO := Lib.hid (formOf_any ((gen : Nat) : Int) none 0 [] (by decide) (fun k hk => by cases hk) (fun _ => ⟨rfl, rfl⟩) w1 (fun h0 => absurd h0 (Nat.lt_irrefl 0)))
    go_wp2_with fail
    refine HFO.out.mono ?_; rintro e w2 ⟨nb, mb, vk, rfl, hn2, hb2⟩
    rw [formV_T]
    have HB2 := Lib.hid (below_step HB1.out hb2); have HX2 := Lib.hid (heap_keep HX1.out hb2)
    have HBS : Hid (w.heap.size ≤ w1.heap.size) := Lib.hid HB1.out.size
    have HN2 := Lib.hid hn2
    have m1 := fun U => (form_take ((gen : Nat) : Int) nb U).1; have m2 := fun U => (form_take ((gen : Nat) : Int) nb U).2
    have k1 := fun U => (form_known ((gen : Nat) : Int) nb U).1; have k2 := fun U => (form_known ((gen : Nat) : Int) nb U).2
    have m3 := formK_enter ((gen : Nat) : Int)
    clear hb2 hn2 HFO HB1 HX1
    go_wp2_with fail
    go_loopw [6, 9, 10, 11, 12] (fun r6 lv _ _ _ wr => ∃ (K : List ByteArray) (L : List Wa.Rec) (q : Nat → RAt) (v' : Value) (rest : ByteArray), r6 = .string rest ∧ Got wr w.heap.size w.heap.size lv L q ∧ NamesIn wr w1.heap.size nb mb v' K ∧ Below w.heap.size w wr ∧ wr.heap[ob]? = some (.cells zeroSeg 34 (0, 0)) ∧ Wa.scanD ((gen : Nat) : Int) K L rest = X0 ∧ K.length + rest.size ≤ s.size ∧ L.length + rest.size ≤ s.size ∧ ∀ k ∈ K, k.size ≤ s.size) (fun r6 _ _ _ _ _ => strLen r6)
    case atStart => exact ⟨[], [], fun _ => ⟨⟨0, [], 0, 0, 0⟩, none, 0⟩, _, rest0, rfl, ⟨World.ownsRow_nil _ _ _ _, rfl, fun i hi => absurd hi (Nat.not_lt_zero i)⟩, HN2.out, HB2.out, HX2.out, HX0.out.symm, by show 0 + rest0.size ≤ s.size; omega, by show 0 + rest0.size ≤ s.size; omega, fun k hk => by cases hk⟩
    case round =>
      obtain ⟨K, L, q, v', rest, rfl, hgot, hn, hb, hx, hsc, hkl, hll, hka⟩ := hrel
      have HGOT := Lib.hid hgot; have HN := Lib.hid hn; have HB := Lib.hid hb; have HX := Lib.hid hx; have HSC := Lib.hid hsc; have HKA := Lib.hid hka; have HKL := Lib.hid (And.intro hkl hll)
      clear hgot hn hb hx hsc hka
      by_cases h0 : rest.size = 0
      · have e0 : rest.toList.isEmpty = true := by rw [La.isEmpty_eq]; simp [h0]
        have HRR : Hid (R = ⟨gen, flags, K, L, s.size - rest.size, false, 0⟩) := Lib.hid (by
          have e : rest = ByteArray.empty := ByteArray.size_eq_zero_iff.1 h0
          rw [HRD2.out, ← HSC.out, e, Wa.scanD_nil]
          rfl)
        clear h0 hkl hll
        obtain ⟨A6, c6, rfl, -⟩ := own_row HN.out.keys
        have hle : rest.size ≤ s.size := by have := HKL.out.1; omega
        have u1 : IntKind.i64.wrap ((s.size : Int) - (rest.size : Int)) = ((s.size - rest.size : Nat) : Int) := by rw [IntWalk.i64_in _ (by omega)]; omega
        have u2 : wrap64 ((s.size : Int) - (rest.size : Int)) = ((s.size - rest.size : Nat) : Int) := by rw [IntWalk.wrap64_in _ ⟨by omega, by omega⟩]; omega
        obtain ⟨ud, hud⟩ : ∃ ud, ud = s.size - rest.size := ⟨_, rfl⟩
        rw [← hud] at u1 u2
        have HUD := Lib.hid hud
        clear hle
        have HKN := Lib.hid (known_any HN.out)
        have hx := HX.out
        unfold zeroSeg at hx
        have z0 := cell_of_row _ _ 0 _ _ _ hx; have z1 := cell_of_row _ _ 1 _ _ _ hx; have z2 := cell_of_row _ _ 2 _ _ _ hx; have z3 := cell_of_row _ _ 3 _ _ _ hx; have z4 := cell_of_row _ _ 4 _ _ _ hx; have z5 := cell_of_row _ _ 5 _ _ _ hx
        have f0 := frozen_of_row _ _ 0 _ _ hx; have f1 := frozen_of_row _ _ 1 _ _ hx; have f2 := frozen_of_row _ _ 2 _ _ hx; have f3 := frozen_of_row _ _ 3 _ _ hx; have f4 := frozen_of_row _ _ 4 _ _ hx; have f5 := frozen_of_row _ _ 5 _ _ hx
        simp only [List.getElem?_toArray, List.getElem?_cons_zero, List.getElem?_cons_succ] at z0 z1 z2 z3 z4 z5
        obtain ⟨A9, c9, rfl, -⟩ := own_row HGOT.out.row
        obtain ⟨hs6, hg6⟩ := store6 hx (.int .i64 (flags : Int)) (.slice A9 L.length c9) (.int .i64 (ud : Int)) (.bool false) (.int .i64 (gen : Int)) (.slice A6 K.length c6)
        have HS6 := Lib.hid hs6
        have HB6 := Lib.hid (HB.out.grown hg6 HB.out.size (fun r e => by obtain rfl : ob = r := Option.some.inj e; rw [HOB.out]; exact Nat.le_refl _))
        have HK6 := Lib.hid (row_kept (own_from HN.out.keys HBS.out) hg6 (fun r e => by obtain rfl : ob = r := Option.some.inj e; exact block_other HN.out.keys hx (by decide)))
        have HG6 : Hid (Got _ w.heap.size w.heap.size (.slice A9 L.length c9) L q) := Lib.hid (Got.mk (row_kept HGOT.out.row hg6 (fun r e => by obtain rfl : ob = r := Option.some.inj e; exact block_other HGOT.out.row hx (by decide))) HGOT.out.list (fun i hi => (HGOT.out.each i hi).of_own (row_kept (HGOT.out.each i hi).own hg6 (fun r e => by obtain rfl : ob = r := Option.some.inj e; exact block_other (HGOT.out.each i hi).own hx (by decide)))))
        clear hs6 hg6 hx hud
        go_wp2_with fail
        refine HKN.out.mono ?_; rintro e w9 ⟨rfl, rfl⟩
        go_wp2_with fail
        have HFIN : Hid (ReadDone w R (.returned (.tuple #[.agg #[.int .i64 (flags : Int), .slice A9 L.length c9, .int .i64 (ud : Int), .bool false, .int .i64 (gen : Int), .slice A6 K.length c6], .int .i64 0])) _) := Lib.hid (by
          rw [HRR.out, ← HUD.out]
          exact ⟨.slice A9 L.length c9, .slice A6 K.length c6, q, rfl, HG6.out, HK6.out, HB6.out⟩)
        refine bodyPost_ret (v := .tuple #[.agg #[.int .i64 (flags : Int), .slice A9 L.length c9, .int .i64 (ud : Int), .bool false, .int .i64 (gen : Int), .slice A6 K.length c6], .int .i64 0]) ?_ rfl HFIN.out
        exact seg_results (p := 2) (t := 3) rfl _ _ ob _ _ _ _ _ _ _ rfl rfl HS6.out
      · have e0 : rest.toList.isEmpty = false := by rw [La.isEmpty_eq]; simp [h0]
        have HTK := Lib.hid (formTake_any ((gen : Nat) : Int) rest (by omega) HN.out (by omega) (fun k hk => Nat.le_trans (HKA.out k hk) (by unfold maxLen; omega)))
        have hst := Wa.scanD_step ((gen : Nat) : Int) K L rest h0
        rw [HSC.out] at hst
        have htk := Wa.take_keys (g := ((gen : Nat) : Int)) (K := K) (s := rest) (m := s.size) HKA.out (by omega)
        have htr := Wa.take_recs (g := ((gen : Nat) : Int)) (K := K) (s := rest)
        have hsh := Wa.take_shape ((gen : Nat) : Int) K rest
        have hls := Wa.take_less ((gen : Nat) : Int) K rest
        obtain ⟨X, hX⟩ : ∃ X, X = Wa.take ((gen : Nat) : Int) K rest := ⟨_, rfl⟩
        rw [← hX] at HTK hst htk htr hsh hls
        have HST := Lib.hid hst; have HTK2 := Lib.hid (And.intro htk (And.intro htr hls))
        clear hX hst htk htr hls hkl hll
        go_wp2_with fail
        refine HTK.out.mono ?_; rintro e w4 ⟨A, c, p, v4, rfl, hlist, hnone, hrow, heach, hn4, hk4, hb4⟩
        have HG4 := Lib.hid (HGOT.out.rk hk4 HN.out.mcells)
        have HN4 := Lib.hid hn4
        have HB4 : Hid (Below w.heap.size w w4) := Lib.hid (HB.out.trans (hb4.mono HBS.out))
        have HX4 := Lib.hid (hk4 ob _ HX.out (by rintro rfl; exact HN.out.mcells _ _ _ HX.out) (fun cs T fr e => by cases e; exact ⟨by decide, by decide, by decide⟩))
        have HL4 := Lib.hid (And.intro hlist (And.intro hnone (And.intro hrow heach)))
        clear hn4 hk4 hb4 hlist hnone hrow heach HGOT HN HB HX HTK
        obtain ⟨Xl, XK, Xr, Xs⟩ := X
        simp only at HST HTK2 HL4 HN4 hsh ⊢
        by_cases h1 : Xs = 1
        · have HRR : Hid (R = ⟨gen, flags, XK, L, s.size - rest.size, true, 0⟩) := Lib.hid (by
            rw [HRD2.out, HST.out, if_pos h1]
            show (⟨gen, flags, XK, L, s.size - rest.size, decide (rest.size ≠ 0), 0⟩ : Wa.Sg) = _
            rw [decide_eq_true h0])
          subst h1
          clear h0 HTK2 HL4
          obtain ⟨A6, c6, rfl, -⟩ := own_row HN4.out.keys
          have hle : rest.size ≤ s.size := by have := HKL.out.1; omega
          have u1 : IntKind.i64.wrap ((s.size : Int) - (rest.size : Int)) = ((s.size - rest.size : Nat) : Int) := by rw [IntWalk.i64_in _ (by omega)]; omega
          have u2 : wrap64 ((s.size : Int) - (rest.size : Int)) = ((s.size - rest.size : Nat) : Int) := by rw [IntWalk.wrap64_in _ ⟨by omega, by omega⟩]; omega
          obtain ⟨ud, hud⟩ : ∃ ud, ud = s.size - rest.size := ⟨_, rfl⟩
          rw [← hud] at u1 u2
          have HUD := Lib.hid hud
          clear hle
          have HKN := Lib.hid (known_any HN4.out)
          have hx := HX4.out
          unfold zeroSeg at hx
          have z0 := cell_of_row _ _ 0 _ _ _ hx; have z1 := cell_of_row _ _ 1 _ _ _ hx; have z2 := cell_of_row _ _ 2 _ _ _ hx; have z3 := cell_of_row _ _ 3 _ _ _ hx; have z4 := cell_of_row _ _ 4 _ _ _ hx; have z5 := cell_of_row _ _ 5 _ _ _ hx
          have f0 := frozen_of_row _ _ 0 _ _ hx; have f1 := frozen_of_row _ _ 1 _ _ hx; have f2 := frozen_of_row _ _ 2 _ _ hx; have f3 := frozen_of_row _ _ 3 _ _ hx; have f4 := frozen_of_row _ _ 4 _ _ hx; have f5 := frozen_of_row _ _ 5 _ _ hx
          simp only [List.getElem?_toArray, List.getElem?_cons_zero, List.getElem?_cons_succ] at z0 z1 z2 z3 z4 z5
          obtain ⟨A9, c9, rfl, -⟩ := own_row HG4.out.row
          obtain ⟨hs6, hg6⟩ := store6 hx (.int .i64 (flags : Int)) (.slice A9 L.length c9) (.int .i64 (ud : Int)) (.bool true) (.int .i64 (gen : Int)) (.slice A6 XK.length c6)
          have HS6 := Lib.hid hs6
          have HB6 := Lib.hid (HB4.out.grown hg6 HB4.out.size (fun r e => by obtain rfl : ob = r := Option.some.inj e; rw [HOB.out]; exact Nat.le_refl _))
          have HK6 := Lib.hid (row_kept (own_from HN4.out.keys HBS.out) hg6 (fun r e => by obtain rfl : ob = r := Option.some.inj e; exact block_other HN4.out.keys hx (by decide)))
          have HG6 : Hid (Got _ w.heap.size w.heap.size (.slice A9 L.length c9) L q) := Lib.hid (Got.mk (row_kept HG4.out.row hg6 (fun r e => by obtain rfl : ob = r := Option.some.inj e; exact block_other HG4.out.row hx (by decide))) HG4.out.list (fun i hi => (HG4.out.each i hi).of_own (row_kept (HG4.out.each i hi).own hg6 (fun r e => by obtain rfl : ob = r := Option.some.inj e; exact block_other (HG4.out.each i hi).own hx (by decide)))))
          clear hs6 hg6 hx hud
          go_wp2_with fail
          refine HKN.out.mono ?_; rintro e w9 ⟨rfl, rfl⟩
          go_wp2_with fail
          have HFIN : Hid (ReadDone w R (.returned (.tuple #[.agg #[.int .i64 (flags : Int), .slice A9 L.length c9, .int .i64 (ud : Int), .bool true, .int .i64 (gen : Int), .slice A6 XK.length c6], .int .i64 0])) _) := Lib.hid (by
            rw [HRR.out, ← HUD.out]
            exact ⟨.slice A9 L.length c9, .slice A6 XK.length c6, q, rfl, HG6.out, HK6.out, HB6.out⟩)
          refine bodyPost_ret (v := .tuple #[.agg #[.int .i64 (flags : Int), .slice A9 L.length c9, .int .i64 (ud : Int), .bool true, .int .i64 (gen : Int), .slice A6 XK.length c6], .int .i64 0]) ?_ rfl HFIN.out
          exact seg_results (p := 2) (t := 3) rfl _ _ ob _ _ _ _ _ _ _ rfl rfl HS6.out
        · have d1 : decide ((Xs : Int) = 1) = false := decide_eq_false (by omega)
          have d2 : ((Xs : Int) == 1) = false := beq_eq_false_iff_ne.2 (by omega)
          by_cases h2 : Xs = 2
          · have HRE : Hid (R = Wa.noSg 9) := Lib.hid (by rw [HRD2.out, HST.out, if_neg h1, if_pos (.inl h2)]; rfl)
            subst h2
            clear h0 h1
            have hx := HX4.out
            unfold zeroSeg at hx
            have z0 := cell_of_row _ _ 0 _ _ _ hx; have z1 := cell_of_row _ _ 1 _ _ _ hx; have z2 := cell_of_row _ _ 2 _ _ _ hx; have z3 := cell_of_row _ _ 3 _ _ _ hx; have z4 := cell_of_row _ _ 4 _ _ _ hx; have z5 := cell_of_row _ _ 5 _ _ _ hx
            have f0 := frozen_of_row _ _ 0 _ _ hx; have f1 := frozen_of_row _ _ 1 _ _ hx; have f2 := frozen_of_row _ _ 2 _ _ hx; have f3 := frozen_of_row _ _ 3 _ _ hx; have f4 := frozen_of_row _ _ 4 _ _ hx; have f5 := frozen_of_row _ _ 5 _ _ hx
            simp only [List.getElem?_toArray, List.getElem?_cons_zero, List.getElem?_cons_succ] at z0 z1 z2 z3 z4 z5
            obtain ⟨hs6, hg6⟩ := store6 hx (.int .i64 0) (.slice none 0 0) (.int .i64 0) (.bool false) (.int .i64 0) (.slice none 0 0)
            have HS6 := Lib.hid hs6
            have HB6 := Lib.hid (HB4.out.grown hg6 HB4.out.size (fun r e => by obtain rfl : ob = r := Option.some.inj e; rw [HOB.out]; exact Nat.le_refl _))
            clear hs6 hg6 hx
            go_wp2_with fail
            refine bodyPost_ret (v := .tuple #[.agg zeroSeg, .int .i64 ((9 : Nat) : Int)]) ?_ rfl (by rw [HRE.out]; exact ReadDone.no HB6.out)
            exact seg_results (p := 2) (t := 3) rfl _ _ ob _ _ _ _ _ _ _ rfl rfl HS6.out
          · have h3 : Xs = 0 := by omega
            subst h3
            clear h1 h2 hsh
            obtain ⟨hlist, hnone, hrow, heach⟩ := HL4.out
            have hlen : Xl.length ≤ 1000000 := by have h5 := HTK2.out.2.1; have h6 := HKL.out.1; omega
            have hrecs : RecsIn w4 A Xl.length p := ⟨hrow, fun i hi => (heach i hi).rec_, by unfold maxLen; omega⟩
            have HAV := Lib.hid (allValid_any A Xl.length c p ((gen : Nat) : Int) w4 hrecs)
            have hok := Wa.allOk_err ((gen : Nat) : Int) Xl (recF p) Xl.length hlist
            have HOK := Lib.hid hok
            clear hlist hnone hrow heach hrecs hok
            go_wp2_with fail
            refine HAV.out.mono ?_; rintro e w5 ⟨rfl, hb5⟩
            have HG5 := Lib.hid (HG4.out.later hb5); have HN5 := Lib.hid (HN4.out.later hb5); have HB5 := Lib.hid (below_step HB4.out hb5); have HX5 := Lib.hid (heap_keep HX4.out hb5)
            have HL5 : Hid ((A = none → Xl.length = 0 ∧ c = 0) ∧ Row 5 (rx p) w5 A Xl.length ∧ ∀ i, i < Xl.length → RecOwn w5 w1.heap.size (p i)) := Lib.hid ⟨HL4.out.2.1, HL4.out.2.2.1.later hb5, fun i hi => (HL4.out.2.2.2 i hi).later hb5⟩
            clear hb5 HAV HG4 HN4 HB4 HX4
            obtain ⟨er, her⟩ : ∃ er, er = Wa.firstErr (recF p) ((gen : Nat) : Int) Xl.length := ⟨_, rfl⟩
            rw [← her]
            have HER := Lib.hid her
            clear her
            by_cases he : er = 0
            · have d5 : (er != 0) = false := by simp [he]
              have HALL : Hid (Wa.allOk ((gen : Nat) : Int) Xl = true) := Lib.hid (by rw [HOK.out, ← HER.out, he]; rfl)
              have HSC2 : Hid (Wa.scanD ((gen : Nat) : Int) XK (L ++ Xl) Xr = X0) := Lib.hid (by rw [HST.out, if_neg (by decide), if_neg (by rw [HALL.out]; simp)])
              clear he
              have HBASE : Hid (w.heap.size ≤ w5.heap.size) := Lib.hid HB5.out.size
              obtain ⟨A9, c9, hlv, -⟩ := own_row HG5.out.row
              subst hlv
              have HFIN : Hid (∀ v5 w6, w6.ownsRow w.heap.size 52 5 v5 (L.length + Xl.length) (rcells 5 (rx q) L.length ++ rcells 5 (rx p) Xl.length) → w5.grownBy w6 (Value.slice A9 L.length c9).ownBlock →
                  Got w6 w.heap.size w.heap.size v5 (L ++ Xl) (qBoth q p L.length) ∧ NamesIn w6 w1.heap.size nb mb v4 XK ∧ Below w.heap.size w w6 ∧ w6.heap[ob]? = some (.cells zeroSeg 34 (0, 0))) := Lib.hid (fun v5 w6 h6 g6 => by
                have hro := HG5.out.row
                have hgg := HG5.out.more HL4.out.1 (fun i hi => RecOwn.mk (HL5.out.2.2 i hi).rec_ (own_from (HL5.out.2.2 i hi).own HBS.out)) h6 g6
                refine ⟨hgg, ?_, HB5.out.grown g6 HB5.out.size (fun r e => (hro.lt r e).1), (g6.block ob (Array.getElem?_eq_some_iff.1 HX5.out).1 (fun e => block_other hro HX5.out (by decide) e.symm)).trans HX5.out⟩
                rcases hro.2 with ⟨e, -⟩ | ⟨g, c2, cur, e, hb, hc, -⟩
                · rw [e] at g6
                  exact HN5.out.later ⟨g6.os, g6.tape, g6.output, g6.size, fun k hk => g6.block k hk (fun e => by cases e)⟩
                · rw [e] at g6
                  exact HN5.out.grown hc (by decide) g6)
              go_wp2_with (at_builtin; go_must (refine wpList_append_row _ rfl _ _ 25 52 rfl 5 56 (.agg #[.int .i64 0, .slice none 0 0, .int .i64 0, .int .i64 0, .int .u64 0]) Try.underlying25 infoRec rfl (by decide) (by decide) w.heap.size _ L.length (rcells 5 (rx q) L.length) rfl HG5.out.row A Xl.length c (rx p) (rx_one p) rfl HL5.out.2.1 HL5.out.1 (by have h5 := HTK2.out.2.1; have h6 := HKL.out.2; omega) HBASE.out ?_); intro v5 w6 hown6 hg6 _; obtain ⟨hgot6, hn6, hb6, hx6⟩ := HFIN.out v5 w6 hown6 hg6; have HG6 := Lib.hid hgot6; have HN6 := Lib.hid hn6; have HB6 := Lib.hid hb6; have HX6 := Lib.hid hx6; clear hown6 hg6 hgot6 hn6 hb6 hx6)
              go_roundw
              case rel =>
                refine ⟨XK, L ++ Xl, qBoth q p L.length, v4, Xr, rfl, HG6.out, HN6.out, HB6.out, HX6.out, HSC2.out, ?_, ?_, HTK2.out.1.1⟩
                · have h5 := HTK2.out.1.2.1 trivial; have h6 := HKL.out.1; omega
                · rw [List.length_append]; have h5 := HTK2.out.2.1; have h6 := HKL.out.2; omega
              case measure => show Xr.size < rest.size; exact HTK2.out.2.2 trivial
            · have d5 : (er != 0) = true := by simpa using he
              have HRE : Hid (R = Wa.noSg 9) := Lib.hid (by
                have hf : Wa.allOk ((gen : Nat) : Int) Xl = false := by rw [HOK.out, ← HER.out]; exact decide_eq_false he
                rw [HRD2.out, HST.out, if_neg (by decide), if_pos (.inr hf)]; rfl)
              clear he h0
              have hx := HX5.out
              unfold zeroSeg at hx
              have z0 := cell_of_row _ _ 0 _ _ _ hx; have z1 := cell_of_row _ _ 1 _ _ _ hx; have z2 := cell_of_row _ _ 2 _ _ _ hx; have z3 := cell_of_row _ _ 3 _ _ _ hx; have z4 := cell_of_row _ _ 4 _ _ _ hx; have z5 := cell_of_row _ _ 5 _ _ _ hx
              have f0 := frozen_of_row _ _ 0 _ _ hx; have f1 := frozen_of_row _ _ 1 _ _ hx; have f2 := frozen_of_row _ _ 2 _ _ hx; have f3 := frozen_of_row _ _ 3 _ _ hx; have f4 := frozen_of_row _ _ 4 _ _ hx; have f5 := frozen_of_row _ _ 5 _ _ hx
              simp only [List.getElem?_toArray, List.getElem?_cons_zero, List.getElem?_cons_succ] at z0 z1 z2 z3 z4 z5
              obtain ⟨hs6, hg6⟩ := store6 hx (.int .i64 0) (.slice none 0 0) (.int .i64 0) (.bool false) (.int .i64 0) (.slice none 0 0)
              have HS6 := Lib.hid hs6
              have HB6 := Lib.hid (HB5.out.grown hg6 HB5.out.size (fun r e => by obtain rfl : ob = r := Option.some.inj e; rw [HOB.out]; exact Nat.le_refl _))
              clear hs6 hg6 hx
              go_wp2_with fail
              refine bodyPost_ret (v := .tuple #[.agg zeroSeg, .int .i64 ((9 : Nat) : Int)]) ?_ rfl (by rw [HRE.out]; exact ReadDone.no HB6.out)
              exact seg_results (p := 2) (t := 3) rfl _ _ ob _ _ _ _ _ _ _ rfl rfl HS6.out
  · have d0 : ((err : Int) != 0) = true := by simp; exact he
    have d1 : ((err : Int) == 0) = false := beq_eq_false_iff_ne.2 (by omega)
    have d2 : decide ((err : Int) = 0) = false := decide_eq_false (by omega)
    have HRE : Hid (R = Wa.noSg err) := Lib.hid (by rw [HRD.out, if_neg he])
    have hx := HX1.out
    unfold zeroSeg at hx
    have z0 := cell_of_row _ _ 0 _ _ _ hx; have z1 := cell_of_row _ _ 1 _ _ _ hx; have z2 := cell_of_row _ _ 2 _ _ _ hx; have z3 := cell_of_row _ _ 3 _ _ _ hx; have z4 := cell_of_row _ _ 4 _ _ _ hx; have z5 := cell_of_row _ _ 5 _ _ _ hx
    have f0 := frozen_of_row _ _ 0 _ _ hx; have f1 := frozen_of_row _ _ 1 _ _ hx; have f2 := frozen_of_row _ _ 2 _ _ hx; have f3 := frozen_of_row _ _ 3 _ _ hx; have f4 := frozen_of_row _ _ 4 _ _ hx; have f5 := frozen_of_row _ _ 5 _ _ hx
    simp only [List.getElem?_toArray, List.getElem?_cons_zero, List.getElem?_cons_succ] at z0 z1 z2 z3 z4 z5
    obtain ⟨hs6, hg6⟩ := store6 hx (.int .i64 0) (.slice none 0 0) (.int .i64 0) (.bool false) (.int .i64 0) (.slice none 0 0)
    have HS6 := Lib.hid hs6
    have HB6 := Lib.hid (HB1.out.grown hg6 HB1.out.size (fun r e => by obtain rfl : ob = r := Option.some.inj e; rw [HOB.out]; exact Nat.le_refl _))
    clear hs6 hg6 hx
    go_wp2_with fail
    refine bodyPost_ret (seg_results rfl _ _ ob _ _ _ _ _ _ _ rfl rfl HS6.out) rfl ?_
    rw [HRE.out]
    exact ReadDone.no HB6.out
end Go.Proofs.Ytaillfnmaiiapaa
