/-
  States that laws keep in blocks; operations of the laws' own.
-/
import Derived.Test.YtidfanmfibbiiaaTrHc
import Derived.Test.YtidfanmfibbiiaaTrO
import Derived.Test.YtidfanmfibbiiaaTrP
namespace Go.Proofs.Ytidfanmfibbiiaa
open Go.RowKit
section
variable {P : Program} {ops : Array Oper} {Q : Exit → Act → World → Prop} {md : Region.Mode}
/-- all that are left are in T -/
def leftB (listed : Array Bool) (T : List Nat) : Bool := (List.range listed.size).all fun j => listed.getD j true || T.contains j
/-- where nothing more is asked of the worlds to come, another thing may be asked -/
theorem wpAnyT_switch {S S2 : World → Prop} {T T2 : List Nat} : ∀ (fuel : Nat) (listed : Array Bool) (a : Act) (w : World), (∀ j, listed.getD j true = false → T.contains j = true) → wpAnyT P md ops Q S2 T2 fuel listed a w → wpAnyT P md ops Q S T fuel listed a w
  | 0, _, _, _, _, h => h
  | fuel + 1, listed, a, w, hl, h => ⟨h.1, fun i hi => wpOp_mono (fun a' w' h' => ⟨fun hc => (by rw [hl i (mem_ready.1 hi).1] at hc; cases hc), wpAnyT_switch fuel _ a' w' (fun j hj => hl j (by
      by_cases hij : i = j
      · subst hij
        exact (mem_ready.1 hi).1
      · rwa [getD_set_ne true hij] at hj)) h'.2⟩) (h.2 i hi)⟩
theorem wpAnyT_turn {S : World → Prop} (S2 : World → Prop) {T : List Nat} (T2 : List Nat) {fuel : Nat} {listed : Array Bool} {a : Act} {w : World} (hl : leftB listed T = true) (h : wpAnyT P md ops Q S2 T2 fuel listed a w) : wpAnyT P md ops Q S T fuel listed a w :=
  wpAnyT_switch fuel listed a w (fun j hj => by
    have hlt : j < listed.size := by
      apply Decidable.byContradiction
      intro hge
      simp [Array.getD, hge] at hj
    have := List.all_eq_true.1 hl j (List.mem_range.2 hlt)
    rw [hj, Bool.false_or] at this
    exact this) h
end
/-- a state that the law keeps in a block -/
structure StAt (W wr : World) (sb : Nat) (A : Option Addr) (n c : Nat) (q : Nat → SerAt) (fl : Int) : Prop where
  bel : Below W.heap.size W wr
  lo : W.heap.size ≤ sb
  sk : wr.heap[sb]? = some (.cells #[.slice A n c, .int .i64 fl] 28 (0, 0))
  rows : WorkRows wr W.heap.size (.slice A n c) n q
  ok : Tr.Ok par ⟨sers q n, fl⟩
theorem StAt.far {W wr w2 : World} {sb : Nat} {A : Option Addr} {n c : Nat} {q : Nat → SerAt} {fl : Int} (h : StAt W wr sb A n c q fl) (hb : Below wr.heap.size wr w2) : StAt W w2 sb A n c q fl := ⟨below_step h.bel hb, h.lo, heap_keep h.sk hb, h.rows.far hb, h.ok⟩
theorem StAt.srs {W wr : World} {sb : Nat} {A : Option Addr} {n c : Nat} {q : Nat → SerAt} {fl : Int} (h : StAt W wr sb A n c q fl) : Sers wr A n c q := by
  obtain ⟨A2, c2, e, h2⟩ := h.rows.sers
  cases e
  exact h2
theorem then_mk {K : Act → World → Prop} {Q : Exit → Act → World → Prop} {a : Act} {w : World} (h : K a w) : Exit.then K Q .normal a w := h
theorem ok_few {q : Nat → SerAt} {n : Nat} {fl : Int} (h : Tr.Ok par ⟨sers q n, fl⟩) : n ≤ 20 ∧ ∀ i, i < n → (q i).sn ≤ 200 := by
  have h1 := h.len
  rw [show (⟨sers q n, fl⟩ : Tr.Stt (List Lab)).ser = sers q n from rfl, sers_length] at h1
  exact ⟨h1, sn_of (fun x hx => (h.each x hx).len)⟩
/-- the next state laid in the place of the one before -/
theorem StAt.next {W wr w2 : World} {sb : Nat} {A A2 : Option Addr} {n c n2 c2 : Nat} {q q2 : Nat → SerAt} {fl fl2 : Int} (h : StAt W wr sb A n c q fl) (hb : Below wr.heap.size wr w2) (hr : WorkRows w2 W.heap.size (.slice A2 n2 c2) n2 q2) (ho : Tr.Ok par ⟨sers q2 n2, fl2⟩) :
    StAt W ((w2.setCell ⟨sb, 0, none⟩ (.slice A2 n2 c2)).setCell ⟨sb, 1, none⟩ (.int .i64 fl2)) sb A2 n2 c2 q2 fl2 := by
  have hk := heap_keep h.sk hb
  obtain ⟨k1, k2, k3⟩ := state_laid hk (.slice A2 n2 c2) (.int .i64 fl2)
  exact ⟨k3 W h.lo (below_step h.bel hb), h.lo, k1, hr.keeps k2 (by decide) (by decide) (by decide), ho⟩
theorem recs_len {α μ : Type} [DecidableEq α] (p : Tr.Par α μ) (S : Tr.Stt α) (o : Tr.Op α μ) (g : Int) : (Tr.run p S o g).2.2.length ≤ S.ser.length + 1 := by
  unfold Tr.run
  repeat' split
  all_goals first | (show 0 ≤ _; omega) | (show 1 ≤ _; omega) | (exact Nat.le_trans (List.length_filterMap_le _ _) (Nat.le_succ _))
theorem recsL_len (r : Nat → RecAt) (m : Nat) : (recsL r m).length = m := by simp [recsL]
theorem st_eq {q : Nat → SerAt} {n : Nat} {fl : Int} {S : Tr.Stt (List Lab)} (h : sers q n = S.ser) (h2 : fl = S.floor) : (⟨sers q n, fl⟩ : Tr.Stt (List Lab)) = S := by rw [h, h2]
def noMat (_ : Nat) : Mat := ⟨0, ByteArray.empty, ByteArray.empty⟩
/-- an operation that appends -/
def opL (xa : Option Addr) (xn xc : Nat) (f : Nat → Lab) (t v : Int) : OpAt := ⟨0, xa, xn, xc, f, none, 0, 0, noMat, t, 0, v, 0⟩
/-- one that asks, or deletes, or keeps -/
def opM (kind : Int) (ma : Option Addr) (mn mc : Nat) (m : Nat → Mat) (t hi : Int) : OpAt := ⟨kind, none, 0, 0, f0, ma, mn, mc, m, t, hi, 0, 0⟩
theorem no_mats (w : World) (m : Nat → Mat) : Row 3 (mx m) w none 0 := fun hn => absurd hn (by omega)
theorem no_labs (w : World) (f : Nat → Lab) : LabRow w none 0 f := LabRow.of_row (fun hn => absurd hn (by omega))
theorem opL_sm {w : World} {xa : Option Addr} {xn xc : Nat} {f : Nat → Lab} (t v : Int) (h : LabRow w xa xn f) (hz : xa = none → xn = 0 ∧ xc = 0) (hn : xn ≤ 10) (hs : ∀ i, i < xn → (f i).1.size ≤ 300 ∧ (f i).2.size ≤ 300) : OpSm w (opL xa xn xc f t v) :=
  ⟨h, hz, hn, hs, no_mats w _, fun _ => ⟨rfl, rfl⟩, Nat.zero_le _, fun i hi => absurd hi (Nat.not_lt_zero i)⟩
theorem opM_sm {w : World} {ma : Option Addr} {mn mc : Nat} {m : Nat → Mat} (k t hi : Int) (h : Row 3 (mx m) w ma mn) (hz : ma = none → mn = 0 ∧ mc = 0) (hn : mn ≤ 10) (hs : ∀ i, i < mn → (m i).n.size ≤ 300 ∧ (m i).v.size ≤ 300) : OpSm w (opM k ma mn mc m t hi) :=
  ⟨no_labs w _, fun _ => ⟨rfl, rfl⟩, Nat.zero_le _, fun i hi => absurd hi (Nat.not_lt_zero i), h, hz, hn, hs⟩
namespace Tr
variable {α μ : Type} [DecidableEq α] {p : Par α μ} {S : Stt α}
theorem once_run {l : α} {m : μ} {t v gen : Int} (hn : (run p S (app l m t 0 v) gen).2.1.n ≠ 0) : (put p S l t v gen).2.1 = true ∧ (run p S (app l m t 0 v) gen).1 = (put p S l t v gen).1 ∧ 0 ≤ t ∧ t ≤ maxT := by
  cases hd : (put p S l t v gen).2.1
  · exact absurd (run_app_no hd).2.2.1 hn
  · refine ⟨rfl, by rw [run_app_yes hd], ?_⟩
    have := isT_iff.1 (put_did hd).2.2.1
    unfold maxT
    exact this
theorem once_b (g : p.Good) (h : Ok p S) {l : α} {m : μ} {t v gen : Int} (hn : (run p S (app l m t 0 v) gen).2.1.n ≠ 0) : (run p (run p S (app l m t 0 v) gen).1 (app l m t 0 v) gen).2.1.err = 0 ∧ (run p (run p S (app l m t 0 v) gen).1 (app l m t 0 v) gen).2.1.n = 0 ∧ (run p (run p S (app l m t 0 v) gen).1 (app l m t 0 v) gen).2.2 = [] := by
  obtain ⟨h1, h2, -⟩ := once_run hn
  rw [h2]
  have h3 := once_same g h h1
  obtain ⟨k1, k2, k3, -⟩ := run_app_no (p := p) (S := (put p S l t v gen).1) (l := l) (m := m) (t := t) (hi := 0) (v := v) (gen := gen) (by rw [h3])
  rw [h3] at k2
  exact ⟨k2, k3, k1⟩
theorem once_c (g : p.Good) (h : Ok p S) {l : α} {m : μ} {t v u gen : Int} (hn : (run p S (app l m t 0 v) gen).2.1.n ≠ 0) (hu : u ≠ v) : (run p (run p S (app l m t 0 v) gen).1 (app l m t 0 u) gen).2.1.err = 5 ∧ (run p (run p S (app l m t 0 v) gen).1 (app l m t 0 u) gen).2.2 = [] := by
  obtain ⟨h1, h2, -⟩ := once_run hn
  rw [h2]
  have h3 := once_other g h h1 hu
  obtain ⟨k1, k2, -, -⟩ := run_app_no (p := p) (S := (put p S l t v gen).1) (l := l) (m := m) (t := t) (hi := 0) (v := u) (gen := gen) (by rw [h3])
  rw [h3] at k2
  exact ⟨k2, k1⟩
theorem once_d (g : p.Good) (h : Ok p S) {l : α} {m : μ} {t v u s gen : Int} (hn : (run p S (app l m t 0 v) gen).2.1.n ≠ 0) (hs : s < t) : (run p (run p S (app l m t 0 v) gen).1 (app l m s 0 u) gen).2.1.err ≠ 0 ∧ (run p (run p S (app l m t 0 v) gen).1 (app l m s 0 u) gen).2.2 = [] := by
  obtain ⟨h1, h2, -⟩ := once_run hn
  rw [h2]
  obtain ⟨h3, h4⟩ := once_ahead (u := u) g h h1 hs
  obtain ⟨k1, k2, -, -⟩ := run_app_no (m := m) (hi := 0) h3
  exact ⟨by rw [k2]; exact h4, k1⟩
theorem run_ask {o : Op α μ} (gen : Int) (hk : o.kind = 3) : run p S o gen = if p.mok o.m = true ∧ o.t ≤ o.hi then (S, ⟨0, 0, askS p o.m o.t o.hi S.ser⟩, []) else (S, ⟨1, 0, []⟩, []) := by
  unfold run
  rw [if_neg (by omega), if_neg (by omega), if_neg (by omega), if_pos hk]
theorem run_del {o : Op α μ} (gen : Int) (hk : o.kind = 1) : run p S o gen = if p.mok o.m = true ∧ o.t ≤ o.hi then (removeS p S o.m o.t o.hi, ⟨0, removeN p o.m o.t o.hi S.ser, []⟩, removeR p o.m o.t o.hi S.ser) else (S, ⟨1, 0, []⟩, []) := by
  unfold run
  rw [if_neg (by omega), if_pos hk]
theorem run_up {o : Op α μ} (gen : Int) (hk : o.kind = 2) : run p S o gen = if isT o.t then (if S.floor < o.t then (raiseS S o.t, ⟨0, raiseN o.t S.ser, []⟩, [⟨2, p.nil, o.t, 0, 0⟩]) else (S, ⟨0, 0, []⟩, [])) else (S, ⟨1, 0, []⟩, []) := by
  unfold run
  rw [if_neg (by omega), if_neg (by omega), if_pos hk]
end Tr
theorem runM3 (S : Tr.Stt (List Lab)) (ma : Option Addr) (mn mc : Nat) (mm : Nat → Mat) (lo hi g : Int) : Tr.run par S (opM 3 ma mn mc mm lo hi).op g = if par.mok ((List.range mn).map mm) = true ∧ lo ≤ hi then (S, ⟨0, 0, Tr.askS par ((List.range mn).map mm) lo hi S.ser⟩, []) else (S, ⟨1, 0, []⟩, []) := Tr.run_ask g rfl
theorem runM1 (S : Tr.Stt (List Lab)) (ma : Option Addr) (mn mc : Nat) (mm : Nat → Mat) (lo hi g : Int) : Tr.run par S (opM 1 ma mn mc mm lo hi).op g = if par.mok ((List.range mn).map mm) = true ∧ lo ≤ hi then (Tr.removeS par S ((List.range mn).map mm) lo hi, ⟨0, Tr.removeN par ((List.range mn).map mm) lo hi S.ser, []⟩, Tr.removeR par ((List.range mn).map mm) lo hi S.ser) else (S, ⟨1, 0, []⟩, []) := Tr.run_del g rfl
theorem runM2 (S : Tr.Stt (List Lab)) (ma : Option Addr) (mn mc : Nat) (mm : Nat → Mat) (lo hi g : Int) : Tr.run par S (opM 2 ma mn mc mm lo hi).op g = if Tr.isT lo then (if S.floor < lo then (Tr.raiseS S lo, ⟨0, Tr.raiseN lo S.ser, []⟩, [⟨2, [], lo, 0, 0⟩]) else (S, ⟨0, 0, []⟩, [])) else (S, ⟨1, 0, []⟩, []) := Tr.run_up g rfl
/-- how many samples the first of a row of series have -/
def sumSn (q : Nat → SerAt) : Nat → Nat
  | 0 => 0
  | k + 1 => sumSn q k + (q k).sn
theorem ser_len (q : SerAt) : q.ser.s.length = q.sn := by simp [SerAt.ser]
theorem sum_sers (q : Nat → SerAt) (m : Nat) : ((sers q m).map (fun x => x.s.length)).sum = sumSn q m := by
  induction m with
  | zero => rfl
  | succ m ih =>
    unfold sers at ih ⊢
    rw [List.range_succ, List.map_append, List.map_append, List.sum_append, ih]
    simp [sumSn, ser_len]
end Go.Proofs.Ytidfanmfibbiiaa
