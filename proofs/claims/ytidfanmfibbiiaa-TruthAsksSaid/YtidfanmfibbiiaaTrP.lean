/-
  Package truth: what is asked for, taken once, gone, kept: of states as mathematics.
-/
import Derived.Test.YtidfanmfibbiiaaTrO
namespace Go.Proofs.Ytidfanmfibbiiaa
namespace Tr
variable {α μ : Type} [DecidableEq α] {p : Par α μ} {S : Stt α}
def maxT : Int := 1125899906842624
/-- a series as it is asked for -/
def shown (x : Ser α) : Ser α := ⟨x.l, x.s, 0⟩
def some_ (x : Ser α) : Bool := !x.s.isEmpty
omit [DecidableEq α] in
theorem within_all {x : Ser α} {f : Int} (hf : isT f = true) (h : SerOk p f x) : within 0 maxT x.s = x.s := by
  unfold within
  rw [List.filter_eq_self]
  intro y hy
  have h1 := h.low y hy
  have h2 := h.high y hy
  have h3 := h.last
  have h4 := (isT_iff.1 hf).1
  show (decide _ && decide _) = true
  rw [Bool.and_eq_true, decide_eq_true_eq, decide_eq_true_eq]
  unfold maxT
  omega
omit [DecidableEq α] in
theorem ask_all (h : Ok p S) (m : μ) : askS p m 0 maxT S.ser = (S.ser.filter (fun x => p.fit m x.l && some_ x)).map shown := by
  have h2 : ∀ L : List (Ser α), (∀ x ∈ L, SerOk p S.floor x) → askS p m 0 maxT L = (L.filter (fun x => p.fit m x.l && some_ x)).map shown := by
    intro L
    induction L with
    | nil => intro _; rfl
    | cons x L ih =>
      intro hL
      have hw := within_all h.floor (hL x (by simp))
      have ih := ih (fun y hy => hL y (by simp [hy]))
      unfold askS at ih ⊢
      rw [List.filterMap_cons, hw, List.filter_cons]
      unfold some_ at ih ⊢
      split
      · rename_i hc
        split at hc
        · cases hc
        · rename_i hc2
          rw [if_neg hc2]; exact ih
      · rename_i y hc
        split at hc
        · rename_i hc2
          cases hc
          rw [if_pos hc2, List.map_cons, ih]; rfl
        · cases hc
  exact h2 S.ser h.each
omit [DecidableEq α] in
theorem asked_sub (h : Ok p S) {m0 : μ} (h0 : ∀ l, p.fit m0 l = true) (m : μ) : ((askS p m 0 maxT S.ser).map Ser.l).Sublist ((askS p m0 0 maxT S.ser).map Ser.l) := by
  rw [ask_all h, ask_all h]
  have e : S.ser.filter (fun x => p.fit m0 x.l && some_ x) = S.ser.filter some_ := List.filter_congr (fun x _ => by rw [h0, Bool.true_and])
  rw [e]
  have e2 : S.ser.filter (fun x => p.fit m x.l && some_ x) = (S.ser.filter some_).filter (fun x => p.fit m x.l) := by rw [List.filter_filter]
  rw [e2]
  exact (List.filter_sublist.map _).map _
theorem floor_up (o : Op α μ) (gen : Int) : S.floor ≤ (run p S o gen).1.floor := by
  have hput : ∀ l t v, (put p S l t v gen).1.floor = S.floor := by
    intro l t v
    cases hd : (put p S l t v gen).2.1
    · rw [put_no hd]
    · obtain ⟨-, -, -, -, -, ⟨-, -, e⟩ | ⟨i, x, -, -, -, -, e⟩⟩ := put_did hd <;> rw [e]
  unfold run
  repeat' split
  all_goals first | exact Int.le_refl _ | (rw [hput]; exact Int.le_refl _) | (simp only [raiseS]; omega)
/-- an operation that appends -/
def app (l : α) (m : μ) (t hi v : Int) : Op α μ := ⟨0, l, m, t, hi, v⟩
theorem run_app_no {l : α} {m : μ} {t hi v gen : Int} (h : (put p S l t v gen).2.1 = false) : (run p S (app l m t hi v) gen).2.2 = [] ∧ (run p S (app l m t hi v) gen).2.1.err = (put p S l t v gen).2.2 ∧ (run p S (app l m t hi v) gen).2.1.n = 0 ∧ (run p S (app l m t hi v) gen).1 = S := by
  unfold run app
  simp only [if_true, h]
  split <;> simp_all
theorem run_app_yes {l : α} {m : μ} {t hi v gen : Int} (h : (put p S l t v gen).2.1 = true) : run p S (app l m t hi v) gen = ((put p S l t v gen).1, ⟨0, 1, []⟩, [⟨0, l, t, 0, v⟩]) := by
  have := (put_did h).2.2.2.2.1
  unfold run app
  simp only [if_true, h, this]
theorem put_late {l : α} {t v gen : Int} (h : t < S.floor) : (put p S l t v gen).2.1 = false ∧ (put p S l t v gen).2.2 ≠ 0 := by
  unfold put
  repeat' split
  all_goals first | (exact ⟨rfl, by simp⟩) | contradiction
theorem put_at {l : α} {t v gen : Int} {i : Nat} {x : Ser α} (hf : find S.ser l = some i) (hx : S.ser[i]? = some x) (h : t < x.last) : (put p S l t v gen).2.1 = false ∧ (put p S l t v gen).2.2 ≠ 0 := by
  unfold put
  rw [hf]
  simp only [hx, h, if_true]
  repeat' split
  all_goals exact ⟨rfl, by simp⟩
theorem rises (g : p.Good) (h : Ok p S) {x : Ser α} (hx : x ∈ S.ser) (m : μ) (t hi v gen : Int) :
    ((t < S.floor ∨ t < x.last) → (run p S (app x.l m t hi v) gen).2.1.err ≠ 0 ∧ (run p S (app x.l m t hi v) gen).2.2 = []) ∧ ((run p S (app x.l m t hi v) gen).2.2 ≠ [] → x.last < t ∧ S.floor ≤ t) := by
  obtain ⟨i, hix, rfl⟩ := List.getElem_of_mem hx
  have hf := find_at g h (List.getElem?_eq_getElem hix)
  constructor
  · intro hlt
    have : (put p S S.ser[i].l t v gen).2.1 = false ∧ (put p S S.ser[i].l t v gen).2.2 ≠ 0 := by
      rcases hlt with h | h
      · exact put_late h
      · exact put_at hf (List.getElem?_eq_getElem hix) h
    obtain ⟨e1, e2, -⟩ := run_app_no (m := m) (hi := hi) this.1
    exact ⟨by rw [e2]; exact this.2, e1⟩
  · intro hne
    cases hd : (put p S S.ser[i].l t v gen).2.1
    · exact absurd (run_app_no hd).1 hne
    · obtain ⟨-, -, -, hfl, -, ⟨hn, -⟩ | ⟨j, y, hj, hy, hlt, -⟩⟩ := put_did hd
      · rw [hf] at hn; cases hn
      · rw [hf] at hj
        cases hj
        rw [List.getElem?_eq_getElem hix] at hy
        cases hy
        exact ⟨hlt, hfl⟩
/-- what was put stands there -/
theorem put_seen (g : p.Good) (h : Ok p S) {l : α} {t v gen : Int} (hd : (put p S l t v gen).2.1 = true) :
    ∃ i y, find (put p S l t v gen).1.ser l = some i ∧ (put p S l t v gen).1.ser[i]? = some y ∧ y.last = t ∧ (⟨t, v⟩ : Sam) ∈ y.s ∧ y.s.Pairwise (fun a b => a.t < b.t) := by
  have hok := ok_put g h l t v gen
  have : ∃ y ∈ (put p S l t v gen).1.ser, y.l = l ∧ y.last = t ∧ (⟨t, v⟩ : Sam) ∈ y.s := by
    obtain ⟨-, -, -, -, -, ⟨-, -, e⟩ | ⟨i, x, hi, hx, -, -, e⟩⟩ := put_did hd
    · rw [e]
      exact ⟨_, ins_mem.2 (Or.inl rfl), rfl, rfl, by simp⟩
    · rw [e]
      obtain ⟨z, hz, hzl⟩ := find_some hi
      rw [hx] at hz
      cases hz
      obtain ⟨hil, -⟩ := List.getElem?_eq_some_iff.1 hx
      exact ⟨_, List.mem_set hil _, hzl, rfl, by simp⟩
  obtain ⟨y, hy, e1, e2, e3⟩ := this
  obtain ⟨i, hi, rfl⟩ := List.getElem_of_mem hy
  have hf := find_at g hok (List.getElem?_eq_getElem hi)
  rw [e1] at hf
  exact ⟨i, _, hf, List.getElem?_eq_getElem hi, e2, e3, (hok.each _ (List.getElem_mem hi)).rise⟩
theorem once_same (g : p.Good) (h : Ok p S) {l : α} {t v gen : Int} (hd : (put p S l t v gen).2.1 = true) : put p (put p S l t v gen).1 l t v gen = ((put p S l t v gen).1, false, 0) := by
  obtain ⟨i, y, hf, hy, hl, hm, -⟩ := put_seen g h hd
  obtain ⟨h1, h2, h3, h4, -, h5⟩ := put_did hd
  have h6 : (put p S l t v gen).1.floor = S.floor := by rcases h5 with ⟨-, -, e⟩ | ⟨i, x, -, -, -, -, e⟩ <;> rw [e]
  generalize (put p S l t v gen).1 = n at *
  unfold put
  rw [h1, h2, h3, h6, hf]
  have h7 : ¬ t < S.floor := by omega
  simp [hy, hl, hm, h7]
theorem once_other (g : p.Good) (h : Ok p S) {l : α} {t v u gen : Int} (hd : (put p S l t v gen).2.1 = true) (hu : u ≠ v) : put p (put p S l t v gen).1 l t u gen = ((put p S l t v gen).1, false, 5) := by
  obtain ⟨i, y, hf, hy, hl, hm, hp⟩ := put_seen g h hd
  obtain ⟨h1, h2, h3, h4, -, h5⟩ := put_did hd
  have h6 : (put p S l t v gen).1.floor = S.floor := by rcases h5 with ⟨-, -, e⟩ | ⟨i, x, -, -, -, -, e⟩ <;> rw [e]
  have h8 : (⟨t, u⟩ : Sam) ∉ y.s := by
    intro hm2
    obtain ⟨a, ha, ea⟩ := List.getElem_of_mem hm
    obtain ⟨b, hb, eb⟩ := List.getElem_of_mem hm2
    rw [List.pairwise_iff_getElem] at hp
    rcases Nat.lt_trichotomy a b with hab | hab | hab
    · have := hp a b ha hb hab
      rw [ea, eb] at this
      exact absurd this (Int.lt_irrefl _)
    · subst hab
      rw [ea] at eb
      cases eb
      exact hu rfl
    · have := hp b a hb ha hab
      rw [ea, eb] at this
      exact absurd this (Int.lt_irrefl _)
  generalize (put p S l t v gen).1 = n at *
  unfold put
  rw [h1, h2, h3, h6, hf]
  have h7 : ¬ t < S.floor := by omega
  simp [hy, hl, h8, h7]
theorem once_ahead (g : p.Good) (h : Ok p S) {l : α} {t v u s gen : Int} (hd : (put p S l t v gen).2.1 = true) (hs : s < t) : (put p (put p S l t v gen).1 l s u gen).2.1 = false ∧ (put p (put p S l t v gen).1 l s u gen).2.2 ≠ 0 := by
  obtain ⟨i, y, hf, hy, hl, -⟩ := put_seen g h hd
  exact put_at hf hy (by omega)
theorem split_length (lo hi : Int) : ∀ L : List Sam, (within lo hi L).length + (without lo hi L).length = L.length
  | [] => rfl
  | x :: L => by
    have ih := split_length lo hi L
    unfold within without at ih ⊢
    rw [List.filter_cons, List.filter_cons]
    cases inT lo hi x <;> simp <;> omega
omit [DecidableEq α] in
theorem lost_eq (lo hi : Int) (x : Ser α) : lost lo hi x = (within lo hi x.s).length := by
  have := split_length lo hi x.s
  unfold lost; omega
omit [DecidableEq α] in
theorem gone_cut (lo hi : Int) (x : Ser α) : within lo hi (cutS lo hi x).s = [] ∧ lost lo hi (cutS lo hi x) = 0 := by
  have e : within lo hi (cutS lo hi x).s = [] := by
    unfold within cutS without
    rw [List.filter_filter, List.filter_eq_nil_iff]
    intro y _
    cases inT lo hi y <;> simp
  exact ⟨e, by rw [lost_eq, e]; rfl⟩
omit [DecidableEq α] in
theorem gone_ask (m : μ) (lo hi : Int) : askS p m lo hi (removeS p S m lo hi).ser = [] := by
  unfold askS removeS
  rw [List.filterMap_eq_nil_iff]
  intro y hy
  obtain ⟨x, -, rfl⟩ := List.mem_map.1 hy
  split
  · rename_i hf
    rw [(gone_cut lo hi x).1]
    simp
  · rename_i hf
    simp [hf]
omit [DecidableEq α] in
theorem gone_recs (m : μ) (lo hi : Int) : removeR p m lo hi (removeS p S m lo hi).ser = [] := by
  unfold removeR removeS
  rw [List.filterMap_eq_nil_iff]
  intro y hy
  obtain ⟨x, -, rfl⟩ := List.mem_map.1 hy
  split
  · rename_i hf
    rw [(gone_cut lo hi x).2]
    simp
  · rename_i hf
    simp [hf]
omit [DecidableEq α] in
theorem gone_count (m : μ) (lo hi : Int) : removeN p m lo hi (removeS p S m lo hi).ser = 0 := by
  unfold removeN removeS
  rw [List.map_map]
  have : ∀ L : List (Ser α), (L.map ((fun x => if p.fit m x.l then lost lo hi x else 0) ∘ fun x => if p.fit m x.l then cutS lo hi x else x)).sum = 0 := by
    intro L
    induction L with
    | nil => rfl
    | cons x L ih =>
      rw [List.map_cons, List.sum_cons, ih]
      simp only [Function.comp]
      by_cases hf : p.fit m x.l = true
      · rw [if_pos hf]
        rw [(gone_cut lo hi x).2]
        simp
      · rw [if_neg hf, if_neg hf]
  exact this S.ser
omit [DecidableEq α] in
theorem count_ask (m : μ) (lo hi : Int) : ∀ L : List (Ser α), ((askS p m lo hi L).map (fun x => x.s.length)).sum = removeN p m lo hi L
  | [] => rfl
  | x :: L => by
    have ih := count_ask m lo hi L
    unfold askS removeN at ih ⊢
    rw [List.filterMap_cons, List.map_cons, List.sum_cons, lost_eq, ← ih]
    by_cases hf : p.fit m x.l = true
    · rw [hf]
      cases hw : within lo hi x.s <;> simp
    · simp [hf]
omit [DecidableEq α] in
theorem recs_ask (m : μ) (lo hi : Int) : ∀ L : List (Ser α), (removeR p m lo hi L).length = (askS p m lo hi L).length
  | [] => rfl
  | x :: L => by
    have ih := recs_ask m lo hi L
    unfold askS removeR at ih ⊢
    rw [List.filterMap_cons, List.filterMap_cons, lost_eq]
    by_cases hf : p.fit m x.l = true
    · rw [hf]
      cases hw : within lo hi x.s <;> simpa using ih
    · simpa [hf] using ih
omit [DecidableEq α] in
theorem old_none (h : Ok p S) (m : μ) {t : Int} (ht : t ≤ S.floor) : askS p m 0 (t - 1) S.ser = [] := by
  unfold askS
  rw [List.filterMap_eq_nil_iff]
  intro x hx
  have : within 0 (t - 1) x.s = [] := by
    unfold within
    rw [List.filter_eq_nil_iff]
    intro y hy
    have := (h.each x hx).low y hy
    simp [inT]; omega
  rw [this]
  simp
omit [DecidableEq α] in
theorem kept_ask (h : Ok p S) (m : μ) (t : Int) : askS p m t maxT (raiseS S t).ser = askS p m t maxT S.ser := by
  have : ∀ L : List (Ser α), (∀ x ∈ L, SerOk p S.floor x) → askS p m t maxT ((L.filter (stays t)).map (keptS t)) = askS p m t maxT L := by
    intro L
    induction L with
    | nil => intro _; rfl
    | cons x L ih =>
      intro hL
      have ih := ih (fun y hy => hL y (by simp [hy]))
      have h0 := hL x (by simp)
      have e1 : within t maxT x.s = within t top x.s := by
        unfold within
        refine List.filter_congr (fun y hy => ?_)
        have := h0.high y hy
        have := h0.last
        have a1 : y.t ≤ maxT := by unfold maxT; omega
        have a2 : y.t ≤ top := by unfold top; omega
        simp [inT, a1, a2]
      have e2 : within t maxT (keptS t x).s = within t top x.s := by
        rw [← e1]
        unfold within keptS within
        rw [List.filter_filter]
        refine List.filter_congr (fun y hy => ?_)
        have := h0.high y hy
        have := h0.last
        have a1 : y.t ≤ maxT := by unfold maxT; omega
        have a2 : y.t ≤ top := by unfold top; omega
        simp [inT, a1, a2]
      unfold askS at ih ⊢
      rw [List.filter_cons]
      split
      · rw [List.map_cons, List.filterMap_cons, List.filterMap_cons, ih, e2, e1]
        rfl
      · rename_i hst
        rw [ih, List.filterMap_cons, e1]
        unfold stays at hst
        simp only [Bool.or_eq_true, not_or, Bool.not_eq_true', Bool.not_eq_false] at hst
        rw [hst.1]
        simp
  exact this S.ser h.each
end Tr
end Go.Proofs.Ytidfanmfibbiiaa
