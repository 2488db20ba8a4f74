import Derived.Test.YtidfanmfibbiiaaMaE
/-
  Package truth, as mathematics: states, what operations come to, what changes tell.
-/
namespace Go.Proofs.Ytidfanmfibbiiaa
deriving instance DecidableEq for Sam
namespace Tr
/-- a series -/
structure Ser (α : Type) where
  l : α
  s : List Sam
  last : Int
/-- a state -/
structure Stt (α : Type) where
  ser : List (Ser α)
  floor : Int
/-- a change -/
structure Rec (α : Type) where
  kind : Int
  l : α
  t : Int
  hi : Int
  v : Int
/-- an operation -/
structure Op (α μ : Type) where
  kind : Int
  l : α
  m : μ
  t : Int
  hi : Int
  v : Int
/-- an answer -/
structure Ans (α : Type) where
  err : Int
  n : Int
  ser : List (Ser α)
/-- what is asked of labels, and of matchers -/
structure Par (α μ : Type) where
  nil : α
  right : α → Bool
  long : α → Int → Bool
  less : α → α → Bool
  fit : μ → α → Bool
  mok : μ → Bool
/-- .. as it must be -/
structure Par.Good {α μ : Type} (p : Par α μ) : Prop where
  irrefl : ∀ a, p.less a a = false
  trans : ∀ {a b c}, p.less a b = true → p.less b c = true → p.less a c = true
  tri : ∀ {a b}, p.right a = true → p.right b = true → p.less a b = true ∨ a = b ∨ p.less b a = true
  long3 : ∀ {a}, p.right a = true → p.long a 3 = false
variable {α μ : Type} [DecidableEq α]
def isT (t : Int) : Bool := decide (0 ≤ t ∧ t ≤ 1125899906842624)
def inT (lo hi : Int) (x : Sam) : Bool := decide (lo ≤ x.t) && decide (x.t ≤ hi)
def within (lo hi : Int) (L : List Sam) : List Sam := L.filter (inT lo hi)
def without (lo hi : Int) (L : List Sam) : List Sam := L.filter (fun x => !inT lo hi x)
def find (L : List (Ser α)) (x : α) : Option Nat := L.findIdx? (fun y => decide (y.l = x))
def ins (p : Par α μ) (L : List (Ser α)) (y : Ser α) : List (Ser α) := L.takeWhile (fun z => p.less z.l y.l) ++ y :: L.dropWhile (fun z => p.less z.l y.l)
/-- put: the state, whether it did, the error -/
def put (p : Par α μ) (S : Stt α) (l : α) (t v gen : Int) : Stt α × Bool × Int :=
  if p.right l = false then (S, false, 2) else if p.long l gen = true then (S, false, 3) else if isT t = false then (S, false, 1) else if t < S.floor then (S, false, 6) else
  match find S.ser l with
  | none => if 20 ≤ S.ser.length then (S, false, 7) else (⟨ins p S.ser ⟨l, [⟨t, v⟩], t⟩, S.floor⟩, true, 0)
  | some i => match S.ser[i]? with
    | none => (S, false, 0)
    | some x => if t < x.last then (S, false, 4) else if t = x.last then (if (⟨t, v⟩ : Sam) ∈ x.s then (S, false, 0) else (S, false, 5)) else
      if 200 ≤ x.s.length then (S, false, 7) else (⟨S.ser.set i ⟨x.l, x.s ++ [⟨t, v⟩], t⟩, S.floor⟩, true, 0)
def cutS (lo hi : Int) (x : Ser α) : Ser α := ⟨x.l, without lo hi x.s, x.last⟩
def lost (lo hi : Int) (x : Ser α) : Nat := x.s.length - (without lo hi x.s).length
def removeS (p : Par α μ) (S : Stt α) (m : μ) (lo hi : Int) : Stt α := ⟨S.ser.map (fun x => if p.fit m x.l then cutS lo hi x else x), S.floor⟩
def removeN (p : Par α μ) (m : μ) (lo hi : Int) (L : List (Ser α)) : Nat := (L.map (fun x => if p.fit m x.l then lost lo hi x else 0)).sum
def removeR (p : Par α μ) (m : μ) (lo hi : Int) (L : List (Ser α)) : List (Rec α) := L.filterMap (fun x => if p.fit m x.l && decide (0 < lost lo hi x) then some ⟨1, x.l, lo, hi, 0⟩ else none)
def top : Int := 9223372036854775807
def keptS (t : Int) (x : Ser α) : Ser α := ⟨x.l, within t top x.s, x.last⟩
def stays (t : Int) (x : Ser α) : Bool := !(within t top x.s).isEmpty || decide (t ≤ x.last)
def raiseS (S : Stt α) (t : Int) : Stt α := ⟨(S.ser.filter (stays t)).map (keptS t), t⟩
def raiseN (t : Int) (L : List (Ser α)) : Nat := (L.map (fun x => x.s.length - (within t top x.s).length)).sum
def askS (p : Par α μ) (m : μ) (lo hi : Int) (L : List (Ser α)) : List (Ser α) := L.filterMap (fun x => if p.fit m x.l && !(within lo hi x.s).isEmpty then some ⟨x.l, within lo hi x.s, 0⟩ else none)
/-- what an operation comes to -/
def run (p : Par α μ) (S : Stt α) (o : Op α μ) (gen : Int) : Stt α × Ans α × List (Rec α) :=
  if o.kind = 0 then
    if (put p S o.l o.t o.v gen).2.2 = 0 then
      if (put p S o.l o.t o.v gen).2.1 then ((put p S o.l o.t o.v gen).1, ⟨0, 1, []⟩, [⟨0, o.l, o.t, 0, o.v⟩]) else (S, ⟨0, 0, []⟩, [])
    else (S, ⟨(put p S o.l o.t o.v gen).2.2, 0, []⟩, [])
  else if o.kind = 1 then
    if p.mok o.m = true ∧ o.t ≤ o.hi then (removeS p S o.m o.t o.hi, ⟨0, removeN p o.m o.t o.hi S.ser, []⟩, removeR p o.m o.t o.hi S.ser) else (S, ⟨1, 0, []⟩, [])
  else if o.kind = 2 then
    if isT o.t then (if S.floor < o.t then (raiseS S o.t, ⟨0, raiseN o.t S.ser, []⟩, [⟨2, p.nil, o.t, 0, 0⟩]) else (S, ⟨0, 0, []⟩, [])) else (S, ⟨1, 0, []⟩, [])
  else if o.kind = 3 then
    if p.mok o.m = true ∧ o.t ≤ o.hi then (S, ⟨0, 0, askS p o.m o.t o.hi S.ser⟩, []) else (S, ⟨1, 0, []⟩, [])
  else (S, ⟨1, 0, []⟩, [])
/-- the state behind a change, and whether it could have been -/
def apply (p : Par α μ) (S : Stt α) (r : Rec α) : Stt α × Bool :=
  if r.kind = 0 then ((put p S r.l r.t r.v 3).1, (put p S r.l r.t r.v 3).2.1)
  else if r.kind = 1 then
    match find S.ser r.l with
    | none => (S, false)
    | some i => match S.ser[i]? with
      | none => (S, false)
      | some x => (⟨S.ser.set i (cutS r.t r.hi x), S.floor⟩, decide (0 < lost r.t r.hi x))
  else if r.kind = 2 then (if isT r.t = true ∧ S.floor < r.t then (raiseS S r.t, true) else (S, false))
  else (S, false)
/-- the state behind changes, and how many could have been -/
def all (p : Par α μ) (S : Stt α) : List (Rec α) → Stt α × Nat
  | [] => (S, 0)
  | r :: L => if (apply p S r).2 then ((all p (apply p S r).1 L).1, (all p (apply p S r).1 L).2 + 1) else ((apply p S r).1, 0)
/-- a series that may be -/
structure SerOk (p : Par α μ) (floor : Int) (x : Ser α) : Prop where
  right : p.right x.l = true
  len : x.s.length ≤ 200
  rise : x.s.Pairwise (fun a b => a.t < b.t)
  low : ∀ y ∈ x.s, floor ≤ y.t
  high : ∀ y ∈ x.s, y.t ≤ x.last
  last : x.last ≤ 1125899906842624
  live : floor ≤ x.last
/-- a state that may be -/
structure Ok (p : Par α μ) (S : Stt α) : Prop where
  floor : isT S.floor = true
  len : S.ser.length ≤ 20
  rise : S.ser.Pairwise (fun a b => p.less a.l b.l = true)
  each : ∀ x ∈ S.ser, SerOk p S.floor x
end Tr
end Go.Proofs.Ytidfanmfibbiiaa
/-
  Package truth: states stay what they may be; changes tell what was done.
-/
namespace Go.Proofs.Ytidfanmfibbiiaa
namespace Tr
variable {α μ : Type} [DecidableEq α] {p : Par α μ} {S : Stt α}
theorem find_some {L : List (Ser α)} {x : α} {i : Nat} (h : find L x = some i) : ∃ y, L[i]? = some y ∧ y.l = x := by
  unfold find at h
  rw [List.findIdx?_eq_some_iff_getElem] at h
  obtain ⟨hi, h1, -⟩ := h
  exact ⟨L[i], List.getElem?_eq_getElem hi, by simpa using h1⟩
theorem find_none {L : List (Ser α)} {x : α} (h : find L x = none) : ∀ y ∈ L, y.l ≠ x := by
  unfold find at h
  rw [List.findIdx?_eq_none_iff] at h
  intro y hy
  simpa using h y hy
theorem find_first {A B : List (Ser α)} {x : Ser α} (h : ∀ y ∈ A, y.l ≠ x.l) : find (A ++ x :: B) x.l = some A.length := by
  unfold find
  rw [List.findIdx?_eq_some_iff_getElem]
  refine ⟨by simp, by simp, fun j hj => ?_⟩
  have := h A[j] (List.getElem_mem hj)
  simp [List.getElem_append_left hj, this]
omit [DecidableEq α] in
theorem Ok.apart (g : p.Good) (h : Ok p S) : S.ser.Pairwise (fun a b => a.l ≠ b.l) :=
  h.rise.imp (fun {a b} hl e => by rw [e, g.irrefl] at hl; cases hl)
theorem find_at (g : p.Good) (h : Ok p S) {i : Nat} {x : Ser α} (hx : S.ser[i]? = some x) : find S.ser x.l = some i := by
  obtain ⟨hi, rfl⟩ := List.getElem?_eq_some_iff.1 hx
  unfold find
  rw [List.findIdx?_eq_some_iff_getElem]
  refine ⟨hi, by simp, fun j hj => ?_⟩
  have := List.pairwise_iff_getElem.1 (h.apart g) j i (by omega) hi hj
  simpa using this
theorem put_no {l : α} {t v gen : Int} (h : (put p S l t v gen).2.1 = false) : (put p S l t v gen).1 = S := by
  unfold put at h ⊢
  repeat' (first | rfl | split at h | split)
  all_goals simp_all
theorem put_did {l : α} {t v gen : Int} (h : (put p S l t v gen).2.1 = true) : p.right l = true ∧ p.long l gen = false ∧ isT t = true ∧ S.floor ≤ t ∧ (put p S l t v gen).2.2 = 0 ∧
    ((find S.ser l = none ∧ S.ser.length < 20 ∧ (put p S l t v gen).1 = ⟨ins p S.ser ⟨l, [⟨t, v⟩], t⟩, S.floor⟩) ∨
      ∃ i x, find S.ser l = some i ∧ S.ser[i]? = some x ∧ x.last < t ∧ x.s.length < 200 ∧ (put p S l t v gen).1 = ⟨S.ser.set i ⟨x.l, x.s ++ [⟨t, v⟩], t⟩, S.floor⟩) := by
  unfold put at h ⊢
  split at h
  · cases h
  rename_i h1
  split at h
  · cases h
  rename_i h2
  split at h
  · cases h
  rename_i h3
  split at h
  · cases h
  rename_i h4
  rw [if_neg h1, if_neg h2, if_neg h3, if_neg h4]
  refine ⟨by simpa using h1, by simpa using h2, by simpa using h3, by omega, ?_⟩
  split at h
  · rename_i hf
    split at h
    · cases h
    rename_i h5
    simp only [h5, if_false]
    exact ⟨trivial, Or.inl ⟨hf, by omega, trivial⟩⟩
  · rename_i i hf
    split at h
    · cases h
    rename_i x hx
    split at h
    · cases h
    rename_i h5
    split at h
    · split at h <;> cases h
    rename_i h6
    split at h
    · cases h
    rename_i h7
    simp only [h5, h6, h7, if_false]
    exact ⟨trivial, Or.inr ⟨i, x, hf, hx, by omega, by omega, rfl⟩⟩
theorem put_newest (g : p.Good) {l : α} {t v gen : Int} (h : (put p S l t v gen).2.1 = true) : put p S l t v 3 = put p S l t v gen := by
  obtain ⟨h1, h2, -⟩ := put_did h
  unfold put
  rw [h2, g.long3 h1]
omit [DecidableEq α] in
theorem mem_takeWhile {q : Ser α → Bool} : ∀ {L : List (Ser α)} {x : Ser α}, x ∈ L.takeWhile q → q x = true
  | y :: L, x, h => by
    rw [List.takeWhile_cons] at h
    split at h
    · rename_i hy
      rcases List.mem_cons.1 h with rfl | h
      · exact hy
      · exact mem_takeWhile h
    · cases h
omit [DecidableEq α] in
theorem ins_rise (g : p.Good) {y : Ser α} (hy : p.right y.l = true) : ∀ {L : List (Ser α)}, L.Pairwise (fun a b => p.less a.l b.l = true) → (∀ x ∈ L, p.right x.l = true) → (∀ x ∈ L, x.l ≠ y.l) → (ins p L y).Pairwise (fun a b => p.less a.l b.l = true)
  | [], _, _, _ => by simp [ins]
  | x :: L, h, hr, hn => by
    obtain ⟨h1, h2⟩ := List.pairwise_cons.1 h
    unfold ins
    rw [List.takeWhile_cons, List.dropWhile_cons]
    by_cases hl : p.less x.l y.l = true
    · rw [if_pos hl, if_pos hl, List.cons_append]
      refine List.pairwise_cons.2 ⟨fun z hz => ?_, ins_rise g hy h2 (fun x hx => hr x (by simp [hx])) (fun x hx => hn x (by simp [hx]))⟩
      rcases List.mem_append.1 hz with hz | hz
      · exact h1 z ((List.takeWhile_sublist _).subset hz)
      · rcases List.mem_cons.1 hz with rfl | hz
        · exact hl
        · exact h1 z ((List.dropWhile_sublist _).subset hz)
    · rw [if_neg hl, if_neg hl, List.nil_append]
      have hyx : p.less y.l x.l = true := by
        rcases g.tri hy (hr x (by simp)) with h | h | h
        · exact h
        · exact absurd h.symm (hn x (by simp))
        · exact absurd h hl
      refine List.pairwise_cons.2 ⟨fun z hz => ?_, h⟩
      rcases List.mem_cons.1 hz with rfl | hz
      · exact hyx
      · exact g.trans hyx (h1 z hz)
omit [DecidableEq α] in
theorem ins_mem {L : List (Ser α)} {y z : Ser α} : z ∈ ins p L y ↔ z = y ∨ z ∈ L := by
  unfold ins
  rw [List.mem_append, List.mem_cons]
  have e := List.takeWhile_append_dropWhile (p := fun z => p.less z.l y.l) (l := L)
  constructor
  · rintro (h | rfl | h)
    · exact Or.inr ((List.takeWhile_sublist _).subset h)
    · exact Or.inl rfl
    · exact Or.inr ((List.dropWhile_sublist _).subset h)
  · rintro (rfl | h)
    · exact Or.inr (Or.inl rfl)
    · rw [← e, List.mem_append] at h
      rcases h with h | h
      · exact Or.inl h
      · exact Or.inr (Or.inr h)
omit [DecidableEq α] in
theorem ins_length {L : List (Ser α)} {y : Ser α} : (ins p L y).length = L.length + 1 := by
  have e := List.takeWhile_append_dropWhile (p := fun z => p.less z.l y.l) (l := L)
  have e2 : (L.takeWhile (fun z => p.less z.l y.l)).length + (L.dropWhile (fun z => p.less z.l y.l)).length = L.length := by rw [← List.length_append, e]
  unfold ins
  rw [List.length_append, List.length_cons]; omega
theorem isT_iff {t : Int} : isT t = true ↔ 0 ≤ t ∧ t ≤ 1125899906842624 := by simp [isT]
theorem ok_put (g : p.Good) (h : Ok p S) (l : α) (t v gen : Int) : Ok p (put p S l t v gen).1 := by
  cases hd : (put p S l t v gen).2.1
  · rw [put_no hd]; exact h
  · obtain ⟨hr, -, ht, hf, -, ⟨hn, hlen, e⟩ | ⟨i, x, hi, hx, hlt, hlen, e⟩⟩ := put_did hd
    · rw [e]
      refine ⟨h.floor, by simp [ins_length]; omega, ins_rise g hr h.rise (fun x hx => (h.each x hx).right) (find_none hn), fun x hx => ?_⟩
      rcases ins_mem.1 hx with rfl | hx
      · exact ⟨hr, by simp, by simp, fun y hy => by simp at hy; subst hy; exact hf, fun y hy => by simp at hy; subst hy; exact Int.le_refl _, (isT_iff.1 ht).2, hf⟩
      · exact h.each x hx
    · rw [e]
      obtain ⟨hil, rfl⟩ := List.getElem?_eq_some_iff.1 hx
      have hx0 := h.each _ (List.getElem_mem hil)
      refine ⟨h.floor, by simpa using h.len, ?_, fun y hy => ?_⟩
      · rw [List.pairwise_iff_getElem]
        intro a b ha hb hab
        have := List.pairwise_iff_getElem.1 h.rise a b (by simpa using ha) (by simpa using hb) hab
        rw [List.getElem_set, List.getElem_set]
        split <;> split <;> simp_all
      · rcases List.mem_or_eq_of_mem_set hy with hy | rfl
        · exact h.each y hy
        · refine ⟨hx0.right, by simp; omega, ?_, fun y hy => ?_, fun y hy => ?_, (isT_iff.1 ht).2, hf⟩
          · rw [List.pairwise_append]
            exact ⟨hx0.rise, by simp, fun a ha b hb => by simp at hb; subst hb; have := hx0.high a ha; simp only; omega⟩
          · rcases List.mem_append.1 hy with hy | hy
            · exact hx0.low y hy
            · simp at hy; subst hy; exact hf
          · rcases List.mem_append.1 hy with hy | hy
            · have := hx0.high y hy; simp only; omega
            · simp at hy; subst hy; exact Int.le_refl _
theorem without_sub (lo hi : Int) (L : List Sam) : (without lo hi L).Sublist L := List.filter_sublist
theorem within_sub (lo hi : Int) (L : List Sam) : (within lo hi L).Sublist L := List.filter_sublist
omit [DecidableEq α] in
theorem SerOk.cut {x : Ser α} {f : Int} (h : SerOk p f x) (lo hi : Int) : SerOk p f (cutS lo hi x) :=
  ⟨h.right, Nat.le_trans (without_sub lo hi x.s).length_le h.len, h.rise.sublist (without_sub lo hi x.s), fun y hy => h.low y ((without_sub lo hi x.s).subset hy), fun y hy => h.high y ((without_sub lo hi x.s).subset hy), h.last, h.live⟩
omit [DecidableEq α] in
theorem ok_remove (h : Ok p S) (m : μ) (lo hi : Int) : Ok p (removeS p S m lo hi) := by
  refine ⟨h.floor, by simpa [removeS] using h.len, ?_, fun x hx => ?_⟩
  · simp only [removeS]
    rw [List.pairwise_map]
    refine h.rise.imp (fun {a b} hab => ?_)
    split <;> split <;> exact hab
  · simp only [removeS] at hx
    obtain ⟨y, hy, rfl⟩ := List.mem_map.1 hx
    split
    · exact (h.each y hy).cut lo hi
    · exact h.each y hy
omit [DecidableEq α] in
theorem ok_raise (h : Ok p S) {t : Int} (ht : isT t = true) : Ok p (raiseS S t) := by
  refine ⟨ht, ?_, ?_, fun x hx => ?_⟩
  · simp only [raiseS, List.length_map]
    exact Nat.le_trans (List.filter_sublist).length_le h.len
  · simp only [raiseS]
    rw [List.pairwise_map]
    exact h.rise.sublist List.filter_sublist
  · simp only [raiseS] at hx
    obtain ⟨y, hy, rfl⟩ := List.mem_map.1 hx
    obtain ⟨hy, hst⟩ := List.mem_filter.1 hy
    have hs := within_sub t top y.s
    have h0 := h.each y hy
    have hlow : ∀ z ∈ within t top y.s, t ≤ z.t := fun z hz => by
      have := (List.mem_filter.1 hz).2
      simp [inT] at this
      exact this.1
    refine ⟨h0.right, Nat.le_trans hs.length_le h0.len, h0.rise.sublist hs, hlow, fun z hz => h0.high z (hs.subset hz), h0.last, ?_⟩
    simp only [stays, Bool.or_eq_true, Bool.not_eq_true', decide_eq_true_eq, List.isEmpty_eq_false_iff_exists_mem] at hst
    rcases hst with ⟨z, hz⟩ | h
    · exact Int.le_trans (hlow z hz) (h0.high z (hs.subset hz))
    · exact h
theorem ok_run (g : p.Good) (h : Ok p S) (o : Op α μ) (gen : Int) : Ok p (run p S o gen).1 := by
  unfold run
  repeat' split
  all_goals first | exact h | exact ok_put g h _ _ _ _ | exact ok_remove h _ _ _ | (exact ok_raise h (by assumption))
omit [DecidableEq α] in
theorem ok_empty : Ok p ⟨[], 0⟩ := ⟨isT_iff.2 ⟨Int.le_refl _, (by decide : (0 : Int) ≤ 1125899906842624)⟩, by simp, by simp, by simp⟩
end Tr
end Go.Proofs.Ytidfanmfibbiiaa
/-
  Package truth: the laws, of states as mathematics.
-/
namespace Go.Proofs.Ytidfanmfibbiiaa
namespace Tr
variable {α μ : Type} [DecidableEq α] {p : Par α μ} {S : Stt α}
omit [DecidableEq α] in
theorem without_all {lo hi : Int} {x : Ser α} (h : lost lo hi x = 0) : without lo hi x.s = x.s := by
  have hs := without_sub lo hi x.s
  have h1 := hs.length_le
  unfold lost at h
  exact hs.eq_of_length (by omega)
omit [DecidableEq α] in
theorem cutS_same {lo hi : Int} {x : Ser α} (h : lost lo hi x = 0) : cutS lo hi x = x := by
  unfold cutS; rw [without_all h]
def stepR (p : Par α μ) (m : μ) (lo hi : Int) (x : Ser α) : Ser α := if p.fit m x.l then cutS lo hi x else x
omit [DecidableEq α] in
theorem stepR_l (m : μ) (lo hi : Int) (x : Ser α) : (stepR p m lo hi x).l = x.l := by unfold stepR; split <;> rfl
/-- the changes of a deletion, one by one, behind the first series -/
theorem all_remove_from (m : μ) (lo hi fl : Int) : ∀ (B A : List (Ser α)), (∀ a ∈ A, ∀ b ∈ B, a.l ≠ b.l) → B.Pairwise (fun a b => a.l ≠ b.l) →
    all p ⟨A ++ B, fl⟩ (removeR p m lo hi B) = (⟨A ++ B.map (stepR p m lo hi), fl⟩, (removeR p m lo hi B).length)
  | [], A, _, _ => by simp [removeR, all]
  | x :: B, A, hA, hB => by
    obtain ⟨h1, h2⟩ := List.pairwise_cons.1 hB
    have hA' : ∀ a ∈ A ++ [stepR p m lo hi x], ∀ b ∈ B, a.l ≠ b.l := by
      intro a ha b hb
      rcases List.mem_append.1 ha with ha | ha
      · exact hA a ha b (by simp [hb])
      · simp at ha; subst ha; rw [stepR_l]; exact h1 b hb
    have ih := all_remove_from m lo hi fl B (A ++ [stepR p m lo hi x]) hA' h2
    rw [List.append_assoc, List.append_assoc] at ih
    simp only [List.cons_append, List.nil_append] at ih
    cases hc : (p.fit m x.l && decide (0 < lost lo hi x))
    · have hx : stepR p m lo hi x = x := by
        unfold stepR
        split
        · rename_i hf
          rw [hf] at hc
          simp at hc
          exact cutS_same hc
        · rfl
      have hr : removeR p m lo hi (x :: B) = removeR p m lo hi B := by unfold removeR; rw [List.filterMap_cons_none]; rw [hc]; rfl
      rw [hr, List.map_cons, hx]
      rw [hx] at ih
      exact ih
    · have hr : removeR p m lo hi (x :: B) = ⟨1, x.l, lo, hi, 0⟩ :: removeR p m lo hi B := by unfold removeR; rw [List.filterMap_cons_some]; rw [hc]; rfl
      simp only [Bool.and_eq_true, decide_eq_true_eq] at hc
      have hx : stepR p m lo hi x = cutS lo hi x := by unfold stepR; rw [if_pos hc.1]
      have hf : find (A ++ x :: B) x.l = some A.length := find_first (fun y hy => hA y hy x (by simp))
      have hap : apply p ⟨A ++ x :: B, fl⟩ ⟨1, x.l, lo, hi, 0⟩ = (⟨A ++ cutS lo hi x :: B, fl⟩, true) := by
        unfold apply
        simp [hf, hc.2]
      rw [hr, all, hap]
      rw [hx] at ih
      simp only [if_true]
      rw [ih, List.map_cons, hx, List.length_cons]
theorem all_remove (g : p.Good) (h : Ok p S) (m : μ) (lo hi : Int) : all p S (removeR p m lo hi S.ser) = (removeS p S m lo hi, (removeR p m lo hi S.ser).length) := by
  have := all_remove_from (p := p) m lo hi S.floor S.ser [] (by simp) (h.apart g)
  simp only [List.nil_append] at this
  exact this
omit [DecidableEq α] in
theorem remove_none {m : μ} {lo hi : Int} (h : removeR p m lo hi S.ser = []) : removeS p S m lo hi = S := by
  have e : S.ser.map (fun x => if p.fit m x.l then cutS lo hi x else x) = S.ser := by
    conv => rhs; rw [← List.map_id S.ser]
    refine List.map_congr_left (fun x hx => ?_)
    unfold removeR at h
    rw [List.filterMap_eq_nil_iff] at h
    have hx := h x hx
    split
    · rename_i hf
      rw [hf] at hx
      simp at hx
      exact cutS_same hx
    · rfl
  unfold removeS
  rw [e]
omit [DecidableEq α] in
theorem remove_some {m : μ} {lo hi : Int} (h : removeR p m lo hi S.ser ≠ []) : removeS p S m lo hi ≠ S := by
  intro e
  have e2 : S.ser.map (fun x => if p.fit m x.l then cutS lo hi x else x) = S.ser := congrArg Stt.ser e
  apply h
  unfold removeR
  rw [List.filterMap_eq_nil_iff]
  intro x hx
  have hx2 : (if p.fit m x.l then cutS lo hi x else x) = x := by
    obtain ⟨i, hi, rfl⟩ := List.getElem_of_mem hx
    have := congrArg (fun L => L[i]?) e2
    simp only [List.getElem?_map, List.getElem?_eq_getElem hi, Option.map_some] at this
    exact Option.some.inj this
  rw [if_neg]
  simp only [Bool.and_eq_true, decide_eq_true_eq, not_and]
  intro hf
  rw [if_pos hf] at hx2
  have : without lo hi x.s = x.s := congrArg Ser.s hx2
  unfold lost
  rw [this]; omega
/-- WHAT THE CHANGES TELL IS THE STATE -/
theorem tells (g : p.Good) (h : Ok p S) (o : Op α μ) (gen : Int) :
    all p S (run p S o gen).2.2 = ((run p S o gen).1, (run p S o gen).2.2.length) ∧ ((run p S o gen).2.1.err ≠ 0 → (run p S o gen).2.2 = []) ∧ ((run p S o gen).2.2 = [] → (run p S o gen).1 = S) ∧ ((run p S o gen).2.2 ≠ [] → (run p S o gen).1 ≠ S) := by
  unfold run
  split
  · split
    · split
      · rename_i h0 he hd
        refine ⟨?_, by simp, by simp, fun _ => ?_⟩
        · simp [all, apply, put_newest g hd, hd]
        · intro e
          obtain ⟨hr, -, ht, hf, -, ⟨hn, hlen, e2⟩ | ⟨i, x, hi, hx, hlt, hlen, e2⟩⟩ := put_did hd
          · rw [e2] at e
            have := congrArg (fun T => T.ser.length) e
            simp [ins_length] at this
          · rw [e2] at e
            have := congrArg (fun T => T.ser[i]?) e
            obtain ⟨hil, rfl⟩ := List.getElem?_eq_some_iff.1 hx
            simp [hil] at this
            have := congrArg Ser.last this
            simp at this
            omega
      · simp [all]
    · simp [all]
  · split
    · split
      · refine ⟨all_remove g h _ _ _, by simp, remove_none, remove_some⟩
      · simp [all]
    · split
      · split
        · split
          · rename_i ht hl
            refine ⟨by simp [all, apply, ht, hl], by simp, by simp, fun _ e => ?_⟩
            have := congrArg Stt.floor e
            simp [raiseS] at this
            omega
          · simp [all]
        · simp [all]
      · split
        · split <;> simp [all]
        · simp [all]
end Tr
end Go.Proofs.Ytidfanmfibbiiaa
