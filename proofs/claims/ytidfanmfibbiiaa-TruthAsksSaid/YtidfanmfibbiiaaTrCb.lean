import Derived.Test.YtidfanmfibbiiaaTrZ
/-
  What package truth asks of labels, told of labels as they lie; puts told of series as they lie.
-/
namespace Go.Proofs.Ytidfanmfibbiiaa
open Go.RowKit
theorem right_congr {f g : Nat → Lab} {n : Nat} (h : ∀ i, i < n → f i = g i) : La.right f n = La.right g n := by
  unfold La.right
  congr 1
  rw [Bool.eq_iff_iff, List.all_eq_true, List.all_eq_true]
  have e : ∀ i, i < n → La.okAt f i = La.okAt g i := fun i hi => by
    unfold La.okAt
    rw [h i hi, h (i - 1) (by omega)]
  exact ⟨fun k i hi => by rw [← e i (List.mem_range.1 hi)]; exact k i hi, fun k i hi => by rw [e i (List.mem_range.1 hi)]; exact k i hi⟩
theorem longest_congr {f g : Nat → Lab} : ∀ {n : Nat}, (∀ i, i < n → f i = g i) → La.longest f n = La.longest g n
  | 0, _ => rfl
  | n + 1, h => by
    unfold La.longest
    rw [longest_congr (fun i hi => h i (by omega)), h n (by omega)]
theorem key_congr {f g : Nat → Lab} : ∀ {n : Nat}, (∀ i, i < n → f i = g i) → La.key f n = La.key g n
  | 0, _ => rfl
  | n + 1, h => by
    unfold La.key
    rw [key_congr (fun i hi => h i (by omega)), h n (by omega)]
theorem keyB_congr {f g : Nat → Lab} {n : Nat} (h : ∀ i, i < n → f i = g i) : La.keyB f n = La.keyB g n := by
  unfold La.keyB
  rw [key_congr h]
theorem par_right (f : Nat → Lab) (n : Nat) : par.right (La.listOf f n) = La.right f n := by
  show La.right (La.at_ (La.listOf f n)) (La.listOf f n).length = _
  rw [La.listOf_length]
  exact right_congr (fun i hi => La.at_listOf f n i hi)
theorem par_long (f : Nat → Lab) (n : Nat) (g : Int) : par.long (La.listOf f n) g = decide (La.limit g < La.longest f n) := by
  show decide (La.limit g < La.longest (La.at_ (La.listOf f n)) (La.listOf f n).length) = _
  rw [La.listOf_length, longest_congr (fun i hi => La.at_listOf f n i hi)]
theorem par_less (f g : Nat → Lab) (n m : Nat) : par.less (La.listOf f n) (La.listOf g m) = La.less (La.keyB f n) (La.keyB g m) := by
  show La.less (La.keyB (La.at_ (La.listOf f n)) (La.listOf f n).length) (La.keyB (La.at_ (La.listOf g m)) (La.listOf g m).length) = _
  rw [La.listOf_length, La.listOf_length, keyB_congr (fun i hi => La.at_listOf f n i hi), keyB_congr (fun i hi => La.at_listOf g m i hi)]
theorem sers_put2 {q : Nat → SerAt} {n k : Nat} (hk : k < n) (B : Option Addr) (m d : Nat) (s : Nat → Sam) (t : Int) : sers (put2 q k B m d s t) n = (sers q n).set k ⟨(q k).labs, (List.range m).map s, t⟩ := by
  apply List.ext_getElem?
  intro i
  by_cases hi : i < n
  · rw [sers_get hi, List.getElem?_set]
    by_cases e : k = i
    · subst e
      rw [if_pos rfl, if_pos (by rw [sers_length]; exact hk)]
      unfold put2
      rw [if_pos rfl]
      rfl
    · rw [if_neg e, sers_get hi]
      unfold put2
      rw [if_neg (fun h => e h.symm)]
  · rw [List.getElem?_eq_none (by rw [sers_length]; omega), List.getElem?_eq_none (by rw [List.length_set, sers_length]; omega)]
theorem takeWhile_pre (p : Nat → Bool) (n : Nat) : (List.range n).takeWhile p = List.range ((List.range n).takeWhile p).length ∧ ((List.range n).takeWhile p).length ≤ n := by
  have hp : (List.range n).takeWhile p <+: List.range n := List.takeWhile_prefix p
  have hl : ((List.range n).takeWhile p).length ≤ n := by have := hp.length_le; rwa [List.length_range] at this
  refine ⟨?_, hl⟩
  have h := List.prefix_iff_eq_take.1 hp
  rw [List.take_range, Nat.min_eq_left hl] at h
  exact h
theorem aheads_le (q : Nat → SerAt) (n : Nat) (f : Nat → Lab) (m : Nat) : aheads q n f m ≤ n := (takeWhile_pre _ n).2
theorem sers_insq (q : Nat → SerAt) {n k : Nat} (hk : k ≤ n) (x : SerAt) : sers (insq q k x) (n + 1) = (sers q n).take k ++ x.ser :: (sers q n).drop k := by
  apply List.ext_getElem?
  intro i
  have hl : ((sers q n).take k).length = k := by rw [List.length_take, sers_length]; omega
  by_cases hi : i < n + 1
  · rw [sers_get hi]
    rcases Nat.lt_trichotomy i k with h | h | h
    · rw [List.getElem?_append_left (by omega), List.getElem?_take, if_pos h, sers_get (by omega)]
      unfold insq
      rw [if_pos h]
    · rw [List.getElem?_append_right (by omega), hl, h, Nat.sub_self, List.getElem?_cons_zero]
      unfold insq
      rw [if_neg (by omega), if_pos rfl]
    · rw [List.getElem?_append_right (by omega), hl]
      obtain ⟨d, hd⟩ : ∃ d, i - k = d + 1 := ⟨i - k - 1, by omega⟩
      rw [hd, List.getElem?_cons_succ, List.getElem?_drop, sers_get (by omega)]
      unfold insq
      rw [if_neg (by omega), if_neg (by omega), show i - 1 = k + d by omega]
  · rw [List.getElem?_eq_none (by rw [sers_length]; omega), List.getElem?_eq_none (by rw [List.length_append, hl, List.length_cons, List.length_drop, sers_length]; omega)]
theorem ins_sers (q : Nat → SerAt) (n : Nat) (f : Nat → Lab) (m : Nat) (y : Tr.Ser (List Lab)) (hy : y.l = La.listOf f m) : Tr.ins par (sers q n) y = (sers q n).take (aheads q n f m) ++ y :: (sers q n).drop (aheads q n f m) := by
  have hp : ∀ i, (fun z : Tr.Ser (List Lab) => par.less z.l y.l) ((q i).ser) = La.less (La.keyB (q i).f (q i).ln) (La.keyB f m) := fun i => by
    show par.less (La.listOf (q i).f (q i).ln) y.l = _
    rw [hy, par_less]
  have htw : (sers q n).takeWhile (fun z => par.less z.l y.l) = (sers q n).take (aheads q n f m) := by
    unfold sers
    rw [List.takeWhile_map]
    have e : (fun z : Tr.Ser (List Lab) => par.less z.l y.l) ∘ (fun i => (q i).ser) = fun i => La.less (La.keyB (q i).f (q i).ln) (La.keyB f m) := by funext i; exact hp i
    rw [e, (takeWhile_pre _ n).1, ← List.map_take, List.take_range, Nat.min_eq_left (aheads_le q n f m)]
    rfl
  have hdw : (sers q n).dropWhile (fun z => par.less z.l y.l) = (sers q n).drop (aheads q n f m) := by
    have h1 := List.takeWhile_append_dropWhile (p := fun z : Tr.Ser (List Lab) => par.less z.l y.l) (l := sers q n)
    rw [htw] at h1
    have h2 := List.take_append_drop (aheads q n f m) (sers q n)
    exact List.append_cancel_left (h1.trans h2.symm)
  unfold Tr.ins
  rw [htw, hdw]
/-- what put says of labels that stand nowhere, where there is room -/
theorem put_new {q : Nat → SerAt} {n m : Nat} {f : Nat → Lab} {fl t v gen : Int} (h1 : La.right f m = true) (h2 : ¬ La.limit gen < La.longest f m) (h3 : Tr.isT t = true) (h4 : ¬ t < fl) (h5 : Tr.find (sers q n) (La.listOf f m) = none) (h6 : n < 20) :
    Tr.put par ⟨sers q n, fl⟩ (La.listOf f m) t v gen = (⟨(sers q n).take (aheads q n f m) ++ ⟨La.listOf f m, [⟨t, v⟩], t⟩ :: (sers q n).drop (aheads q n f m), fl⟩, true, 0) := by
  unfold Tr.put
  rw [par_right, par_long, h1, decide_eq_false h2, h3]
  simp only [h4, h5, sers_length, if_false, Bool.true_eq_false, Bool.false_eq_true, Nat.not_le.2 h6]
  rw [ins_sers q n f m _ rfl]
theorem put_there {q : Nat → SerAt} {n m i : Nat} {f : Nat → Lab} {fl t v gen : Int} (h1 : La.right f m = true) (h2 : ¬ La.limit gen < La.longest f m) (h3 : Tr.isT t = true) (h4 : ¬ t < fl) (h5 : Tr.find (sers q n) (La.listOf f m) = some i) (hi : i < n) :
    Tr.put par ⟨sers q n, fl⟩ (La.listOf f m) t v gen = if behindE (q i) t v ≠ 0 ∨ t = (q i).last then (⟨sers q n, fl⟩, false, behindE (q i) t v) else (⟨(sers q n).set i ⟨(q i).labs, (List.range (q i).sn).map (q i).s ++ [⟨t, v⟩], t⟩, fl⟩, true, 0) := by
  unfold Tr.put behindE
  rw [par_right, par_long, h1, decide_eq_false h2, h3]
  have hl : ((List.range (q i).sn).map (q i).s).length = (q i).sn := by simp
  simp only [h4, h5, sers_get hi, if_false, Bool.true_eq_false, Bool.false_eq_true, SerAt.ser, hl]
  by_cases a1 : t < (q i).last
  · simp [a1]
  · by_cases a2 : t = (q i).last
    · by_cases a3 : (⟨t, v⟩ : Sam) ∈ (List.range (q i).sn).map (q i).s
      · simp only [a2, if_true, or_true]
        rw [a2] at a3
        simp [a3]
      · simp only [a2, if_true, or_true]
        rw [a2] at a3
        simp [a3]
    · by_cases a4 : 200 ≤ (q i).sn
      · simp [a1, a2, a4]
      · simp [a1, a2, a4]
theorem put_full {q : Nat → SerAt} {n m : Nat} {f : Nat → Lab} {fl t v gen : Int} (h1 : La.right f m = true) (h2 : ¬ La.limit gen < La.longest f m) (h3 : Tr.isT t = true) (h4 : ¬ t < fl) (h5 : Tr.find (sers q n) (La.listOf f m) = none) (h6 : 20 ≤ n) :
    Tr.put par ⟨sers q n, fl⟩ (La.listOf f m) t v gen = (⟨sers q n, fl⟩, false, 7) := by
  unfold Tr.put
  rw [par_right, par_long, h1, decide_eq_false h2, h3]
  simp [h4, h5, sers_length, h6]
theorem put_right {q : Nat → SerAt} {n m : Nat} {f : Nat → Lab} {fl t v gen : Int} (h1 : La.right f m = false) : Tr.put par ⟨sers q n, fl⟩ (La.listOf f m) t v gen = (⟨sers q n, fl⟩, false, 2) := by
  unfold Tr.put
  rw [par_right, h1]; rfl
theorem put_long {q : Nat → SerAt} {n m : Nat} {f : Nat → Lab} {fl t v gen : Int} (h1 : La.right f m = true) (h2 : La.limit gen < La.longest f m) : Tr.put par ⟨sers q n, fl⟩ (La.listOf f m) t v gen = (⟨sers q n, fl⟩, false, 3) := by
  unfold Tr.put
  rw [par_right, par_long, h1, decide_eq_true h2]; rfl
theorem put_time {q : Nat → SerAt} {n m : Nat} {f : Nat → Lab} {fl t v gen : Int} (h1 : La.right f m = true) (h2 : ¬ La.limit gen < La.longest f m) (h3 : Tr.isT t = false) : Tr.put par ⟨sers q n, fl⟩ (La.listOf f m) t v gen = (⟨sers q n, fl⟩, false, 1) := by
  unfold Tr.put
  rw [par_right, par_long, h1, decide_eq_false h2, h3]; rfl
theorem put_late0 {q : Nat → SerAt} {n m : Nat} {f : Nat → Lab} {fl t v gen : Int} (h1 : La.right f m = true) (h2 : ¬ La.limit gen < La.longest f m) (h3 : Tr.isT t = true) (h4 : t < fl) : Tr.put par ⟨sers q n, fl⟩ (La.listOf f m) t v gen = (⟨sers q n, fl⟩, false, 6) := by
  unfold Tr.put
  rw [par_right, par_long, h1, decide_eq_false h2, h3]
  simp [h4]
theorem find_lt {q : Nat → SerAt} {n i : Nat} {x : List Lab} (h : Tr.find (sers q n) x = some i) : i < n := by
  obtain ⟨y, hy, -⟩ := Tr.find_some h
  have := (List.getElem?_eq_some_iff.1 hy).1
  rwa [sers_length] at this
theorem findI_of_some {L : List (Tr.Ser (List Lab))} {x : List Lab} {i : Nat} (h : Tr.find L x = some i) : findI L x = (i : Int) := by unfold findI; rw [h]
theorem findI_of_none {L : List (Tr.Ser (List Lab))} {x : List Lab} (h : Tr.find L x = none) : findI L x = -1 := by unfold findI; rw [h]
end Go.Proofs.Ytidfanmfibbiiaa
/-
  What put comes to: the walk.
-/
namespace Go.Proofs.Ytidfanmfibbiiaa
open Go.RowKit
/-- what a state at work is behind something that is told -/
def PutEnd (w W : World) (b : Nat) (op : List Value) (gen err cnt : Int) (ans recs : Value) (r : Tr.Stt (List Lab) × Bool × Int) (n0 : Nat) (e : Ending) (W' : World) : Prop :=
  e = .returned (.tuple #[.bool r.2.1, .int .i64 r.2.2]) ∧ ∃ (v' : Value) (mb' n' : Nat) (q' : Nat → SerAt), Work w W' b v' r.1.floor mb' op gen err cnt ans recs n' q' ∧ sers q' n' = r.1.ser ∧ n' ≤ n0 + 1 ∧ Keeps [70, 51, 48] W W'
theorem put_cells {w W w1 : World} {b g cap mb n k : Nat} {fl gen err cnt : Int} {op : List Value} {ans recs : Value} {q : Nat → SerAt} (hw : Work w W b (.slice (some ⟨g, 0, none⟩) n cap) fl mb op gen err cnt ans recs n q) (hk : k < n) {o : Obj}
    (hg : (W.alloc o).grownBy w1 (Value.slice (q k).sa (q k).sn (q k).sc).ownBlock) :
    w1.cell? ⟨g, k * 3 + 1, none⟩ = some (.slice (q k).sa (q k).sn (q k).sc) ∧ w1.cell? ⟨g, k * 3 + 2, none⟩ = some (.int .i64 (q k).last) ∧ w1.frozen? ⟨g, k * 3 + 1, none⟩ = false ∧ w1.frozen? ⟨g, k * 3 + 2, none⟩ = false := by
  have hal : Below W.heap.size W (W.alloc o) := (Below.refl _ _).alloc (Nat.le_refl _) _
  have hk0 : Keeps [51] W w1 := (Keeps.below hal).trans (Keeps.own ((hw.rows.each k hk).samo.alloc o) (by simp) hg)
  have hown1 := row_keeps hw.rows.own hk0 (by decide)
  refine ⟨?_, ?_, World.ownsRow.frozenAt hown1 _, World.ownsRow.frozenAt hown1 _⟩
  · rw [World.ownsRow.cellAt hown1 _ (by omega)]
    exact rcells_get 3 _ n k 1 hk (by omega)
  · rw [World.ownsRow.cellAt hown1 _ (by omega)]
    exact rcells_get 3 _ n k 2 hk (by omega)
theorem own_lit {W : World} {base e k n : Nat} {A : Option Addr} {c : Nat} {xs : List Value} (h : W.ownsRow base e k (.slice A n c) n xs) (hn : 0 < n) : ∃ g, A = some ⟨g, 0, none⟩ := by
  rcases h.2 with ⟨e, h0⟩ | ⟨g, c1, cur, e, -⟩
  · omega
  · cases e; exact ⟨g, rfl⟩
set_option maxRecDepth 100000 in
set_option maxHeartbeats 4000000 in
theorem put_tail {w W : World} {b g cap mb n k : Nat} {fl gen err cnt : Int} {op : List Value} {ans recs : Value} {q : Nat → SerAt} (hw : Work w W b (.slice (some ⟨g, 0, none⟩) n cap) fl mb op gen err cnt ans recs n q) (hk : k < n) (h9 : (q k).sn ≤ 900) (t v : Int) :
    ∀ gs caps w1, w1.ownsRow w.heap.size 51 2 (.slice (some ⟨gs, 0, none⟩) ((q k).sn + 1) caps) ((q k).sn + 1) (rcells 2 (sx (q k).s) (q k).sn ++ rcells 2 (sx fun _ => ⟨t, v⟩) 1) → (W.alloc (.cells #[.int .i64 t, .int .u64 v] 51)).grownBy w1 (Value.slice (q k).sa (q k).sn (q k).sc).ownBlock → ((Value.slice (q k).sa (q k).sn (q k).sc).ownBlock = some gs ∨ gs = W.heap.size + 1) →
    w1.cell? ⟨g, k * 3 + 1, none⟩ = some (.slice (q k).sa (q k).sn (q k).sc) ∧ w1.cell? ⟨g, k * 3 + 2, none⟩ = some (.int .i64 (q k).last) ∧ w1.frozen? ⟨g, k * 3 + 1, none⟩ = false ∧ w1.frozen? ⟨g, k * 3 + 2, none⟩ = false ∧
    Hid (Work w ((w1.setCell ⟨g, k * 3 + 1, none⟩ (.slice (some ⟨gs, 0, none⟩) ((q k).sn + 1) caps)).setCell ⟨g, k * 3 + 2, none⟩ (.int .i64 t)) b (.slice (some ⟨g, 0, none⟩) n cap) fl mb op gen err cnt ans recs n (put2 q k (some ⟨gs, 0, none⟩) ((q k).sn + 1) caps (snoc (q k).s (q k).sn ⟨t, v⟩) t) ∧
    Keeps [51, 48] W ((w1.setCell ⟨g, k * 3 + 1, none⟩ (.slice (some ⟨gs, 0, none⟩) ((q k).sn + 1) caps)).setCell ⟨g, k * 3 + 2, none⟩ (.int .i64 t))) := fun gs caps w1 hown hg hlie => by
  obtain ⟨a, b1, c, d⟩ := put_cells hw hk hg
  exact ⟨a, b1, c, d, Lib.hid (put_step hw hk h9 t v hown hg hlie)⟩
set_option maxRecDepth 100000 in
set_option maxHeartbeats 4000000 in
theorem put_any {w W : World} {b mb n : Nat} {sl : Value} {fl gen err cnt : Int} {op : List Value} {ans recs : Value} {q : Nat → SerAt} (hw : Work w W b sl fl mb op gen err cnt ans recs n q) (hn2 : n ≤ 900) (hs9 : ∀ i, i < n → (q i).sn ≤ 900)
    {A : Option Addr} {m c : Nat} (hnone : A = none → m = 0 ∧ c = 0) (hm : m ≤ 1000) {f : Nat → Lab} (hf : ∀ i, i < m → (f i).1.size ≤ 300 ∧ (f i).2.size ≤ 300) (hF : LabRow w A m f) (t v pg : Int) :
    Calls Try.prog 40 #[.pointer (some ⟨b, 0, none⟩), .slice A m c, .int .i64 t, .int .u64 v, .int .i64 pg] W (PutEnd w W b op gen err cnt ans recs (Tr.put par ⟨sers q n, fl⟩ (La.listOf f m) t v pg) n) := by
  obtain ⟨A0, c0, rfl, hsr⟩ := hw.rows.sers
  obtain ⟨i0, hi0, hz0, hz1, hz2⟩ := info_parts infoSam
  have HW := Lib.hid hw; have HSR := Lib.hid hsr; have HS9 := Lib.hid hs9
  have HF := Lib.hid hF; have HN := Lib.hid hnone; have HFS := Lib.hid hf
  have hmx : m ≤ maxLen := Nat.le_trans hm (by unfold maxLen; decide)
  have HCK := Lib.hid (Check_any A m c hmx f (fun i hi => ⟨size_max (hf i hi).1, size_max (hf i hi).2⟩) W (hF.later hw.bel))
  have HLO := Lib.hid (fun U (hb : Below W.heap.size W U) => Longest_any A m c hmx f (fun i hi => ⟨size_max (hf i hi).1, size_max (hf i hi).2⟩) U ((hF.later hw.bel).later hb))
  have HLM := Lib.hid (fun U => Limit_any pg U)
  have HIT := Lib.hid (fun U => isTime_any t U)
  have HFI := Lib.hid (fun U (hb : Below W.heap.size W U) => find_any A0 n c0 q mb A m c hnone f hf U (hsr.later hb) (hw.map.later hb) ((hF.later hw.bel).later hb))
  have HIM := Lib.hid (fun U (hu : Work w U b (.slice A0 n c0) fl mb op gen err cnt ans recs n q) => insertM_any hu hn2 (c := c) hnone hm hf hF)
  clear hw hsr hnone hf hF hs9 hmx
  go_enter Try.func40, Try.ntmps40
  go_wp2_with fail
  refine HCK.out.mono ?_; rintro e w2 ⟨rfl, hb2⟩
  have HB2 := Lib.hid hb2; clear hb2 HCK
  by_cases c1 : La.right f m = false
  · have HFINE : Hid (PutEnd w W b op gen err cnt ans recs (Tr.put par ⟨sers q n, fl⟩ (La.listOf f m) t v pg) n (.returned (.tuple #[.bool false, .int .i64 2])) w2) := Lib.hid (by
      rw [put_right c1]
      exact ⟨rfl, _, mb, n, q, HW.out.far HB2.out, rfl, by omega, Keeps.below HB2.out⟩)
    have hr0 : ((La.err (La.right f m) : Nat) : Int) = 2 := by rw [c1]; rfl
    rw [hr0]
    clear hr0 c1
    go_wp2_with fail
    go_ret2
    exact HFINE.out
  have c1 : La.right f m = true := by simpa using c1
  have hr0 : ((La.err (La.right f m) : Nat) : Int) = 0 := by rw [c1]; rfl
  rw [hr0]
  have C1 := Lib.hid c1
  clear hr0 c1
  go_wp2_with fail
  refine (HLO.out _ HB2.out).mono ?_; rintro e w3 ⟨rfl, hb3⟩
  have HB3 := Lib.hid (below_step HB2.out hb3); clear hb3
  go_wp2_with fail
  refine (HLM.out _).mono ?_; rintro e w4 ⟨rfl, rfl⟩
  by_cases c2 : La.limit pg < La.longest f m
  · have HFINE : Hid (PutEnd w W b op gen err cnt ans recs (Tr.put par ⟨sers q n, fl⟩ (La.listOf f m) t v pg) n (.returned (.tuple #[.bool false, .int .i64 3])) w3) := Lib.hid (by
      rw [put_long C1.out c2]
      exact ⟨rfl, _, mb, n, q, HW.out.far HB3.out, rfl, by omega, Keeps.below HB3.out⟩)
    go_wp2_with fail
    go_ret2
    exact HFINE.out
  have C2 := Lib.hid c2
  go_wp2_with fail
  refine (HIT.out _).mono ?_; rintro e w4 ⟨rfl, rfl⟩
  cases c3 : Tr.isT t
  · have HFINE : Hid (PutEnd w W b op gen err cnt ans recs (Tr.put par ⟨sers q n, fl⟩ (La.listOf f m) t v pg) n (.returned (.tuple #[.bool false, .int .i64 1])) w4) := Lib.hid (by
      rw [put_time C1.out C2.out c3]
      exact ⟨rfl, _, mb, n, q, HW.out.far HB3.out, rfl, by omega, Keeps.below HB3.out⟩)
    clear c3
    go_wp2_with fail
    go_ret2
    exact HFINE.out
  have C3 := Lib.hid c3
  clear c3 c2
  have z1 : w4.cell? ⟨b, 1, none⟩ = some (.int .i64 fl) := cell_of_row _ _ _ _ _ _ (heap_keep HW.out.wk HB3.out)
  by_cases c4 : t < fl
  · have HFINE : Hid (PutEnd w W b op gen err cnt ans recs (Tr.put par ⟨sers q n, fl⟩ (La.listOf f m) t v pg) n (.returned (.tuple #[.bool false, .int .i64 6])) w4) := Lib.hid (by
      rw [put_late0 C1.out C2.out C3.out c4]
      exact ⟨rfl, _, mb, n, q, HW.out.far HB3.out, rfl, by omega, Keeps.below HB3.out⟩)
    have d4 : decide (t < fl) = true := decide_eq_true c4
    go_wp2_with fail
    go_ret2
    exact HFINE.out
  have C4 := Lib.hid c4
  have d4 : decide (t < fl) = false := decide_eq_false c4
  clear c4
  go_wp2_with fail
  clear d4 z1
  refine plain_T (fun U => Below W.heap.size W U) [] (by kernel_rfl) ?_
  have HD : Hid (Below W.heap.size W w4.drew) := Lib.hid HB3.out.drew
  generalize w4.drew = wd at HD ⊢
  refine wpAnyT_pick (S := (fun U => Below W.heap.size W U)) (by kernel_rfl) Only.panic Only.keepsIn (w := wd) HD.out [0, 1, 2, 3, 4, 5, 6, 7, 8, 9] 2 _ _ (by kernel_rfl) ?_
  refine PickT.value (d := some 36) (.pointer (some ⟨b, 0, none⟩)) rfl rfl (by kernel_rfl) (fun U hU => (by go_simp)) ?_
  refine PickT.value (d := some 37) (.pointer (some ⟨b, 0, none⟩)) rfl rfl (by kernel_rfl) (fun U hU => (by go_simp)) ?_
  refine PickT.value (d := some 38) (.pointer (some ⟨b, 0, none⟩)) rfl rfl (by kernel_rfl) (fun U hU => (by go_simp)) ?_
  refine PickT.value (d := some 39) (.pointer (some ⟨b, 0, none⟩)) rfl rfl (by kernel_rfl) (fun U hU => (by go_simp)) ?_
  refine PickT.value (d := some 40) (.slice A0 n c0) rfl rfl (by kernel_rfl) (fun U hU => (by have h0 : U.cell? ⟨b, 0, none⟩ = some (.slice A0 n c0) := cell_of_row _ _ _ _ _ _ (heap_keep HW.out.wk hU); go_simp)) ?_
  refine PickT.value (d := some 41) (.pointer (some ⟨b, 0, none⟩)) rfl rfl (by kernel_rfl) (fun U hU => (by go_simp)) ?_
  refine PickT.value (d := some 42) (.pointer (some ⟨b, 0, none⟩)) rfl rfl (by kernel_rfl) (fun U hU => (by go_simp)) ?_
  refine PickT.value (d := some 43) (.pointer (some ⟨b, 2, none⟩)) rfl rfl (by kernel_rfl) (fun U hU => (by go_simp)) ?_
  refine PickT.value (d := some 44) (.map (some mb)) rfl rfl (by kernel_rfl) (fun U hU => (by have h0 : U.cell? ⟨b, 2, none⟩ = some (.map (some mb)) := cell_of_row _ _ _ _ _ _ (heap_keep HW.out.wk hU); go_simp)) ?_
  refine PickT.value (d := some 45) (.slice A m c) rfl rfl (by kernel_rfl) (fun U hU => (by go_simp)) ?_
  simp only [PickT, Act.put, List.setIfInBounds_toArray, List.set_cons_zero, List.set_cons_succ]
  refine wpAnyT_one (i := 10) (by kernel_rfl) rfl (by kernel_rfl) ?_
  intro K hK
  unfold Oper.wp
  go_simp
  refine (HFI.out _ HD.out).mono ?_; rintro e w5 ⟨rfl, hb5⟩
  have HB5 := Lib.hid (below_step HD.out hb5); clear hb5
  refine hK _ _ (fun _ => HB5.out) ?_
  clear hK K
  cases c5 : Tr.find (sers q n) (La.listOf f m) with
  | none =>
    rw [findI_of_none c5]
    refine wpAnyT_pick (S := (fun U => Below W.heap.size W U)) (by kernel_rfl) Only.panic Only.keepsIn (w := w5) HB5.out [11] 0 _ _ (by kernel_rfl) ?_
    refine PickT.value (d := some 13) (.int .i64 (-1)) rfl rfl (by kernel_rfl) (fun U hU => (by go_simp)) ?_
    simp only [PickT, Act.put, List.setIfInBounds_toArray, List.set_cons_zero, List.set_cons_succ]
    refine wpAnyT_done (by kernel_rfl) ?_ _
    refine Only.next ?_
    have z0 : w5.cell? ⟨b, 0, none⟩ = some (.slice A0 n c0) := cell_of_row _ _ _ _ _ _ (heap_keep HW.out.wk HB5.out)
    by_cases c6 : 20 ≤ n
    · have HFINE : Hid (PutEnd w W b op gen err cnt ans recs (Tr.put par ⟨sers q n, fl⟩ (La.listOf f m) t v pg) n (.returned (.tuple #[.bool false, .int .i64 7])) w5) := Lib.hid (by
        rw [put_full C1.out C2.out C3.out (Int.not_lt.2 C4.out) c5 c6]
        exact ⟨rfl, _, mb, n, q, HW.out.far HB5.out, rfl, by omega, Keeps.below HB5.out⟩)
      have d6 : decide ((20 : Int) ≤ (n : Int)) = true := decide_eq_true (by omega)
      clear c6 c5
      go_wp2_with fail
      go_ret2
      exact HFINE.out
    · have C5 := Lib.hid c5
      have hn20 : n < 20 := by omega
      have d6 : decide ((20 : Int) ≤ (n : Int)) = false := decide_eq_false (by omega)
      clear c5 c6
      go_wp2_with fail
      refine (HIM.out _ (HW.out.far HB5.out)).mono ?_; rintro e wx ⟨v6, mb6, A6, c6, rfl, hw6, hk6⟩
      obtain ⟨A7, c7, rfl, -⟩ := hw6.rows.sers
      obtain ⟨g, rfl⟩ := own_lit hw6.rows.own (by omega)
      have hah := aheads_le q n f m
      have hkn : aheads q n f m < n + 1 := by omega
      have HK6 := Lib.hid ((Keeps.below (Ts := [70, 48]) HB5.out).trans hk6)
      have HW6 := Lib.hid hw6
      have HPUT := Lib.hid (put_new (t := t) (v := v) C1.out C2.out C3.out (Int.not_lt.2 C4.out) C5.out hn20)
      have hx6 : insq q (aheads q n f m) (newS A6 m c6 f) (aheads q n f m) = newS A6 m c6 f := by unfold insq; rw [if_neg (by omega), if_pos rfl]
      have hsn6 : (insq q (aheads q n f m) (newS A6 m c6 f) (aheads q n f m)).sn ≤ 900 := by rw [hx6]; exact Nat.zero_le _
      have HSI := Lib.hid (sers_insq q hah (newS A6 m c6 f))
      have HX6 := Lib.hid hx6
      clear hw6 hk6 z0 d6 hx6
      have HT := Lib.hid (put_tail HW6.out hkn hsn6 t v)
      have HSO := Lib.hid ((HW6.out.rows.each (aheads q n f m) hkn).samo.alloc (.cells #[.int .i64 t, .int .u64 v] 51))
      have HBA : Hid (w.heap.size ≤ (wx.alloc (.cells #[.int .i64 t, .int .u64 v] 51)).heap.size) := Lib.hid (by have := HW6.out.bel.size; simp; omega)
      have HRW := Lib.hid ((samRow_one wx t v).cells (by decide))
      have y0 : wx.cell? ⟨b, 0, none⟩ = some (.slice (some ⟨g, 0, none⟩) (n + 1) c7) := cell_of_row _ _ _ _ _ _ HW6.out.wk
      have y1 : wx.cell? ⟨g, (aheads q n f m) * 3 + 1, none⟩ = some (.slice ((insq q (aheads q n f m) (newS A6 m c6 f)) (aheads q n f m)).sa ((insq q (aheads q n f m) (newS A6 m c6 f)) (aheads q n f m)).sn ((insq q (aheads q n f m) (newS A6 m c6 f)) (aheads q n f m)).sc) := HW6.out.rows.cells hkn 1 (by omega)
      have k0 : (0 : Int) ≤ (((aheads q n f m) : Nat) : Int) := Int.natCast_nonneg _
      have k1 : (((aheads q n f m) : Nat) : Int) < (((n + 1) : Nat) : Int) := Int.ofNat_lt.2 hkn
      have hs9 : ((insq q (aheads q n f m) (newS A6 m c6 f)) (aheads q n f m)).sn ≤ 900 := hsn6
      have HINS : ∀ (B : Option Addr) (d : Nat) (m0 : Nat) (s0 : Nat → Sam), (List.range m0).map s0 = [⟨t, v⟩] → Hid (sers (put2 (insq q (aheads q n f m) (newS A6 m c6 f)) (aheads q n f m) B m0 d s0 t) (n + 1) = (sers q n).take (aheads q n f m) ++ ⟨La.listOf f m, [⟨t, v⟩], t⟩ :: (sers q n).drop (aheads q n f m)) := fun B d m0 s0 hs0 => Lib.hid (by
        rw [sers_put2 hkn, HSI.out, HX6.out, hs0]
        have hlt : ((sers q n).take (aheads q n f m)).length = aheads q n f m := by rw [List.length_take, sers_length]; omega
        rw [List.set_append_right _ _ (by omega), hlt, Nat.sub_self, List.set_cons_zero]
        rfl)
      have HSN : Hid ((List.range ((insq q (aheads q n f m) (newS A6 m c6 f) (aheads q n f m)).sn + 1)).map (snoc (insq q (aheads q n f m) (newS A6 m c6 f) (aheads q n f m)).s (insq q (aheads q n f m) (newS A6 m c6 f) (aheads q n f m)).sn ⟨t, v⟩) = [⟨t, v⟩]) := Lib.hid (by
        rw [snoc_map, HX6.out]; rfl)
      have HINS2 := fun B d => HINS B d _ _ HSN.out
      have HIH := Lib.hid HINS2
      clear HINS HINS2 HSI HX6 HSN hah
      generalize (sers q n).take (aheads q n f m) ++ ⟨La.listOf f m, [⟨t, v⟩], t⟩ :: (sers q n).drop (aheads q n f m) = R at HIH HPUT
      generalize (insq q (aheads q n f m) (newS A6 m c6 f)) = q6 at *
      generalize aheads q n f m = k6 at *
      generalize hsn : (q6 k6).sn = sn at *
      generalize hss : (q6 k6).s = ss at *
      clear hsn hss
      go_wp2_with (at_builtin; go_must (refine wpList_append_lies _ rfl _ _ 46 rfl w.heap.size 51 i0 (.agg #[.int .i64 0, .int .u64 0]) 2 16 Try.underlying46 hi0 hz0 hz1 hz2 rfl (by decide) _ sn (rcells 2 (sx ss) sn) rfl HSO.out ⟨wx.heap.size, 0, none⟩ 1 1 (rcells 2 (sx fun _ => ⟨t, v⟩) 1) rfl (rcells_length 2 _ 1) HRW.out (rcells_one (sx_one _) 1) (by decide) (by unfold maxLen; omega) (by omega) HBA.out (wx.heap.size + 1) (by simp) ?_); intro gs caps w1 hown hg hlie _; obtain ⟨c1, c2, c3, c4, HFIN⟩ := HT.out gs caps w1 hown hg hlie; clear hown hg hlie)
      go_ret2
      rw [HPUT.out]
      refine ⟨rfl, _, mb6, n + 1, _, HFIN.out.1, (HIH.out _ _).out, Nat.le_refl _, ?_⟩
      exact (HK6.out.mono (by simp)).trans (HFIN.out.2.mono (by simp))
  | some i =>
    have hi := find_lt c5
    rw [findI_of_some c5]
    refine wpAnyT_pick (S := (fun U => Below W.heap.size W U)) (by kernel_rfl) Only.panic Only.keepsIn (w := w5) HB5.out [11] 0 _ _ (by kernel_rfl) ?_
    refine PickT.value (d := some 13) (.int .i64 (i : Int)) rfl rfl (by kernel_rfl) (fun U hU => (by go_simp)) ?_
    simp only [PickT, Act.put, List.setIfInBounds_toArray, List.set_cons_zero, List.set_cons_succ]
    refine wpAnyT_done (by kernel_rfl) ?_ _
    refine Only.next ?_
    obtain ⟨g, rfl⟩ := own_lit HW.out.rows.own (by omega)
    have HW5 := Lib.hid (HW.out.far HB5.out)
    have z0 : w5.cell? ⟨b, 0, none⟩ = some (.slice (some ⟨g, 0, none⟩) n c0) := cell_of_row _ _ _ _ _ _ HW5.out.wk
    have x0 : w5.cell? ⟨g, i * 3, none⟩ = some (.slice (q i).la (q i).ln (q i).lc) := HW5.out.rows.cells hi 0 (by omega)
    have x1 : w5.cell? ⟨g, i * 3 + 1, none⟩ = some (.slice (q i).sa (q i).sn (q i).sc) := HW5.out.rows.cells hi 1 (by omega)
    have x2 : w5.cell? ⟨g, i * 3 + 2, none⟩ = some (.int .i64 (q i).last) := HW5.out.rows.cells hi 2 (by omega)
    have j0 : (0 : Int) ≤ (i : Int) := Int.natCast_nonneg _
    have j1 : (i : Int) < (n : Int) := Int.ofNat_lt.2 hi
    have d0 : ¬ (i : Int) < 0 := by omega
    have HBH := Lib.hid (behind_any (q i) t v w5 (HW5.out.rows.each i hi).ser_in)
    have HPUT := Lib.hid (put_there (t := t) (v := v) C1.out C2.out C3.out (Int.not_lt.2 C4.out) c5 hi)
    clear c5
    go_wp2_with fail
    refine HBH.out.mono ?_; rintro e wx ⟨rfl, hb6⟩
    have HB6 := Lib.hid (below_step HB5.out hb6)
    have HW6 := Lib.hid (HW5.out.far hb6)
    have y0 : wx.cell? ⟨b, 0, none⟩ = some (.slice (some ⟨g, 0, none⟩) n c0) := cell_of_row _ _ _ _ _ _ HW6.out.wk
    have y2 : wx.cell? ⟨g, i * 3 + 2, none⟩ = some (.int .i64 (q i).last) := HW6.out.rows.cells hi 2 (by omega)
    clear z0 x0 x1 x2 hb6 HBH
    by_cases e1 : behindE (q i) t v = 0
    · by_cases e2 : t = (q i).last
      · have HFINE : Hid (PutEnd w W b op gen err cnt ans recs (Tr.put par ⟨sers q n, fl⟩ (La.listOf f m) t v pg) n (.returned (.tuple #[.bool false, .int .i64 0])) wx) := Lib.hid (by
          rw [HPUT.out, if_pos (Or.inr e2), e1]
          exact ⟨rfl, _, mb, n, q, HW6.out, rfl, by omega, Keeps.below HB6.out⟩)
        have b2 : (t == (q i).last) = true := by simpa using e2
        rw [e1]
        clear e1 e2 HPUT
        go_wp2_with fail
        go_ret2
        exact HFINE.out
      · have HP2 : Hid (Tr.put par ⟨sers q n, fl⟩ (La.listOf f m) t v pg = (⟨(sers q n).set i ⟨(q i).labs, (List.range (q i).sn).map (q i).s ++ [⟨t, v⟩], t⟩, fl⟩, true, 0)) := Lib.hid (by rw [HPUT.out, if_neg (by rintro (h | h); exact h e1; exact e2 h)])
        have b2 : (t == (q i).last) = false := by simpa using e2
        rw [e1]
        clear e1 e2 HPUT y0
        have hs90 := HS9.out i hi
        have HT := Lib.hid (put_tail HW6.out hi hs90 t v)
        have HSO := Lib.hid ((HW6.out.rows.each (i) hi).samo.alloc (.cells #[.int .i64 t, .int .u64 v] 51))
        have HBA : Hid (w.heap.size ≤ (wx.alloc (.cells #[.int .i64 t, .int .u64 v] 51)).heap.size) := Lib.hid (by have := HW6.out.bel.size; simp; omega)
        have HRW := Lib.hid ((samRow_one wx t v).cells (by decide))
        have y0 : wx.cell? ⟨b, 0, none⟩ = some (.slice (some ⟨g, 0, none⟩) (n) c0) := cell_of_row _ _ _ _ _ _ HW6.out.wk
        have y1 : wx.cell? ⟨g, (i) * 3 + 1, none⟩ = some (.slice (q (i)).sa (q (i)).sn (q (i)).sc) := HW6.out.rows.cells hi 1 (by omega)
        have k0 : (0 : Int) ≤ (((i) : Nat) : Int) := Int.natCast_nonneg _
        have k1 : (((i) : Nat) : Int) < (((n) : Nat) : Int) := Int.ofNat_lt.2 hi
        have hs9 : (q (i)).sn ≤ 900 := hs90
        have HIH : Hid (∀ (B : Option Addr) (d : Nat), sers (put2 q i B ((q i).sn + 1) d (snoc (q i).s (q i).sn ⟨t, v⟩) t) n = (sers q n).set i ⟨(q i).labs, (List.range (q i).sn).map (q i).s ++ [⟨t, v⟩], t⟩) := Lib.hid (fun B d => by rw [sers_put2 hi, snoc_map])
        generalize (sers q n).set i ⟨(q i).labs, (List.range (q i).sn).map (q i).s ++ [⟨t, v⟩], t⟩ = R at HIH HP2
        generalize hsn : (q i).sn = sn at *
        generalize hss : (q i).s = ss at *
        clear hsn hss hs90
        go_wp2_with (at_builtin; go_must (refine wpList_append_lies _ rfl _ _ 46 rfl w.heap.size 51 i0 (.agg #[.int .i64 0, .int .u64 0]) 2 16 Try.underlying46 hi0 hz0 hz1 hz2 rfl (by decide) _ sn (rcells 2 (sx ss) sn) rfl HSO.out ⟨wx.heap.size, 0, none⟩ 1 1 (rcells 2 (sx fun _ => ⟨t, v⟩) 1) rfl (rcells_length 2 _ 1) HRW.out (rcells_one (sx_one _) 1) (by decide) (by unfold maxLen; omega) (by omega) HBA.out (wx.heap.size + 1) (by simp) ?_); intro gs caps w1 hown hg hlie _; obtain ⟨c1, c2, c3, c4, HFIN⟩ := HT.out gs caps w1 hown hg hlie; clear hown hg hlie)
        go_ret2
        rw [HP2.out]
        refine ⟨rfl, _, mb, n, _, HFIN.out.1, HIH.out _ _, by omega, ?_⟩
        exact (Keeps.below HB6.out).trans (HFIN.out.2.mono (by simp))
    · have HFINE : Hid (PutEnd w W b op gen err cnt ans recs (Tr.put par ⟨sers q n, fl⟩ (La.listOf f m) t v pg) n (.returned (.tuple #[.bool false, .int .i64 (behindE (q i) t v)])) wx) := Lib.hid (by
        rw [HPUT.out, if_pos (Or.inl e1)]
        exact ⟨rfl, _, mb, n, q, HW6.out, rfl, by omega, Keeps.below HB6.out⟩)
      have b1 : (behindE (q i) t v == 0) = false := by simpa using e1
      have b3 : (behindE (q i) t v != 0) = true := by simpa using e1
      generalize behindE (q i) t v = er at *
      clear HPUT
      go_wp2_with fail
      go_ret2
      exact HFINE.out
end Go.Proofs.Ytidfanmfibbiiaa
