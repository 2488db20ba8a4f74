/-
  Labels: the mathematics of the reference's Read.
-/
import Derived.Test.YtieoncjdhileoaaLaRA
namespace Go.Proofs.Ytieoncjdhileoaa
namespace La
/-- up to a byte that ends it, and what is behind that -/
def rword (e : UInt8) : List UInt8 → List UInt8 → Option (List UInt8 × List UInt8)
  | [], _ => none
  | [c], v => if c = e then some (v, []) else none
  | c :: d :: r, v => if c = e then some (v, d :: r) else if c = 92 then rword e r (v ++ [d]) else rword e (d :: r) (v ++ [c])
theorem rword_end (e : UInt8) (t : List UInt8) (i : Nat) (v : List UInt8) (h : i < t.length) (h3 : t[i] = e) : rword e (t.drop i) v = some (v, t.drop (i + 1)) := by
  rw [List.drop_eq_getElem_cons h]
  rcases Nat.lt_or_ge (i + 1) t.length with h1 | h1
  · rw [List.drop_eq_getElem_cons h1, rword, if_pos h3]
  · rw [List.drop_eq_nil_of_le h1, rword, if_pos h3]
theorem rword_esc (e : UInt8) (t : List UInt8) (i : Nat) (v : List UInt8) (h : i + 1 < t.length) (he : ¬ t[i] = e) (h9 : t[i] = 92) : rword e (t.drop i) v = rword e (t.drop (i + 2)) (v ++ [t[i + 1]]) := by
  rw [List.drop_eq_getElem_cons (show i < t.length by omega), List.drop_eq_getElem_cons h, rword, if_neg he, if_pos h9]
theorem rword_last (e : UInt8) (t : List UInt8) (i : Nat) (v : List UInt8) (h : i + 1 = t.length) (he : ¬ t[i] = e) : rword e (t.drop i) v = none := by
  rw [List.drop_eq_getElem_cons (show i < t.length by omega), List.drop_eq_nil_of_le (by omega), rword, if_neg he]
theorem rword_one (e : UInt8) (t : List UInt8) (i : Nat) (v : List UInt8) (h : i < t.length) (he : ¬ t[i] = e) (h9 : ¬ t[i] = 92) : rword e (t.drop i) v = rword e (t.drop (i + 1)) (v ++ [t[i]]) := by
  rw [List.drop_eq_getElem_cons h]
  rcases Nat.lt_or_ge (i + 1) t.length with h1 | h1
  · rw [List.drop_eq_getElem_cons h1, rword, if_neg he, if_neg h9]
  · rw [List.drop_eq_nil_of_le h1]; simp [rword, he]
theorem rword_no (e : UInt8) (t : List UInt8) (i : Nat) (v : List UInt8) (h : t.length ≤ i) : rword e (t.drop i) v = none := by
  rw [List.drop_eq_nil_of_le h, rword]
theorem rword_name (r : List UInt8) : ∀ (nm a : List UInt8), (∀ b ∈ nm, b ≠ 61 ∧ b ≠ 92) → rword 61 (nm ++ 61 :: r) a = some (a ++ nm, r)
  | [], a, _ => by
    show rword 61 (61 :: r) a = _
    cases r <;> simp [rword]
  | c :: nm, a, h => by
    have ih := rword_name r nm (a ++ [c]) (fun b hb => h b (List.mem_cons_of_mem _ hb))
    have hc := h c (List.mem_cons_self ..)
    obtain ⟨d, t, ht⟩ : ∃ d t, nm ++ 61 :: r = d :: t := List.exists_cons_of_ne_nil (by simp)
    show rword 61 (c :: (nm ++ 61 :: r)) a = _
    rw [ht, rword, if_neg hc.1, if_neg hc.2, ← ht, ih]; simp
theorem rword_value (r : List UInt8) : ∀ (v a : List UInt8), rword 34 (esc v ++ 34 :: r) a = some (a ++ v, r)
  | [], a => by
    show rword 34 (34 :: r) a = _
    cases r <;> simp [rword]
  | c :: v, a => by
    have ih := rword_value r v (a ++ [c])
    have hc : esc (c :: v) = (if c = 34 ∨ c = 92 then [92, c] else [c]) ++ esc v := rfl
    rw [hc]
    by_cases h1 : c = 34 ∨ c = 92
    · rw [if_pos h1]
      show rword 34 (92 :: c :: (esc v ++ 34 :: r)) a = _
      rw [rword, if_neg (by decide), if_pos rfl, ih]; simp
    · rw [if_neg h1]
      obtain ⟨d, t, ht⟩ : ∃ d t, esc v ++ 34 :: r = d :: t := List.exists_cons_of_ne_nil (by simp)
      show rword 34 (c :: (esc v ++ 34 :: r)) a = _
      rw [ht, rword, if_neg (fun e => h1 (.inl e)), if_neg (fun e => h1 (.inr e)), ← ht, ih]; simp
/-- one label, and what is behind the byte behind it -/
def rone (r : List UInt8) : Option (Lab × List UInt8) :=
  match rword 61 r [] with
  | none => none
  | some (n, a) => if a = [] then none else match rword 34 (a.drop 1) [] with
    | none => none
    | some (v, b) => if b = [] then none else some ((⟨n.toArray⟩, ⟨v.toArray⟩), b.drop 1)
/-- what the reference's Read loops to -/
def rreadLoop : Nat → List Lab → List UInt8 → Option (List Lab)
  | 0, L, _ => some L
  | k + 1, L, r => if r.length ≤ 1 then some L else match rone r with
    | none => none
    | some (x, t) => rreadLoop k (L ++ [x]) t
theorem rreadLoop_succ (k : Nat) (L : List Lab) (r : List UInt8) : rreadLoop (k + 1) L r = if r.length ≤ 1 then some L else match rone r with
    | none => none
    | some (x, t) => rreadLoop k (L ++ [x]) t := rfl
theorem rreadLoop_short (k : Nat) (L : List Lab) (r : List UInt8) (h : r.length ≤ 1) : rreadLoop k L r = some L := by
  cases k with
  | zero => rfl
  | succ k => rw [rreadLoop_succ, if_pos h]
def rread (s : ByteArray) : Option (List Lab) := if s.size = 0 then none else
  match rreadLoop 7 [] (s.data.toList.drop 1) with
  | none => none
  | some L => if rightL L = true ∧ showB (at_ L) L.length = s then some L else none
theorem okName_no92 {s : ByteArray} (h : okName s = true) : ∀ b ∈ s.data.toList, b ≠ 61 ∧ b ≠ 92 := by
  intro b hb
  refine ⟨okName_no61 h b hb, fun e => ?_⟩
  subst e
  unfold okName allB at h
  simp only [Bool.and_eq_true] at h
  have := List.all_eq_true.1 h.1.1 92 hb
  exact absurd this (by decide)
theorem rone_item (x : Lab) (c : UInt8) (t : List UInt8) (hx : okName x.1 = true) : rone (x.1.data.toList ++ 61 :: 34 :: (esc x.2.data.toList ++ 34 :: (c :: t))) = some (x, t) := by
  unfold rone
  rw [rword_name _ _ _ (okName_no92 hx)]
  simp only [List.nil_append, reduceCtorEq, if_false, List.drop_succ_cons, List.drop_zero, rword_value]
theorem rreadLoop_line : ∀ (k : Nat) (M L : List Lab), M.length + 1 ≤ k → (∀ x ∈ M, okName x.1 = true) → ∀ x, okName x.1 = true → rreadLoop k L (line (x :: M) [125]) = some (L ++ x :: M)
  | 0, _, _, h, _, _, _ => by omega
  | k + 1, [], L, _, _, x, hx => by
    have e : line [x] [125] = x.1.data.toList ++ 61 :: 34 :: (esc x.2.data.toList ++ 34 :: (125 :: [])) := by simp [line, item]
    rw [rreadLoop_succ, e, if_neg (by simp; omega), rone_item x 125 [] hx]
    exact rreadLoop_short k _ [] (by simp)
  | k + 1, y :: M, L, h, hM, x, hx => by
    have e : line (x :: y :: M) [125] = x.1.data.toList ++ 61 :: 34 :: (esc x.2.data.toList ++ 34 :: (44 :: line (y :: M) [125])) := by simp [line, item]
    rw [rreadLoop_succ, e, if_neg (by simp; omega), rone_item x 44 _ hx]
    show rreadLoop k (L ++ [x]) (line (y :: M) [125]) = _
    rw [rreadLoop_line k M (L ++ [x]) (by simpa using h) (fun z hz => hM z (List.mem_cons_of_mem _ hz)) y (hM y (List.mem_cons_self ..))]
    simp
theorem rread_of_show {f : Nat → Lab} {n : Nat} (h : right f n = true) : rread (showB f n) = some (listOf f n) := by
  obtain ⟨h1, h2, h3⟩ := right_parts h
  obtain ⟨m, rfl⟩ : ∃ m, n = m + 1 := ⟨n - 1, by omega⟩
  have e : (showB f (m + 1)).data.toList = 123 :: line (listOf f (m + 1)) [125] := by
    rw [← shown_line]; rfl
  have hl : rreadLoop 7 [] ((showB f (m + 1)).data.toList.drop 1) = some (listOf f (m + 1)) := by
    rw [e]
    show rreadLoop 7 [] (line (listOf f (m + 1)) [125]) = _
    have hne : listOf f (m + 1) ≠ [] := fun h => by have := congrArg List.length h; rw [listOf_length] at this; cases this
    obtain ⟨y, M, hy⟩ := List.exists_cons_of_ne_nil hne
    have hall : ∀ x ∈ listOf f (m + 1), okName x.1 = true := fun x hx => by
      obtain ⟨i, hi, rfl⟩ := List.mem_map.1 hx
      exact (h3 i (List.mem_range.1 hi)).1
    have hlen := listOf_length f (m + 1)
    rw [hy] at hall hlen ⊢
    rw [List.length_cons] at hlen
    rw [rreadLoop_line 7 M [] (by omega) (fun x hx => hall x (List.mem_cons_of_mem _ hx)) y (hall y (List.mem_cons_self ..)), List.nil_append]
  have hz : ¬ (showB f (m + 1)).size = 0 := by
    rw [Lib.size_eq, e]; simp
  unfold rread
  rw [if_neg hz, hl]
  show (if _ then _ else _) = _
  rw [if_pos]
  refine ⟨right_list h, ?_⟩
  rw [listOf_length]
  exact showB_eq (fun i hi => at_listOf f _ i hi)
theorem read_shows {s : ByteArray} {L : List Lab} (h : read s = some L) : rightL L = true ∧ showB (at_ L) L.length = s := by
  unfold read at h
  split at h
  · rename_i hc; cases h; exact hc
  · cases h
theorem rread_shows {s : ByteArray} {L : List Lab} (h : rread s = some L) : rightL L = true ∧ showB (at_ L) L.length = s := by
  unfold rread at h
  split at h
  · cases h
  · split at h
    · cases h
    · split at h
      · rename_i hc; cases h; exact hc
      · cases h
/-- the document's Read is the reference's -/
theorem read_rread (s : ByteArray) : read s = rread s := by
  cases hr : read s with
  | some L =>
    obtain ⟨h1, h2⟩ := read_shows hr
    have := rread_of_show (f := at_ L) (n := L.length) h1
    rw [h2, listOf_at] at this
    exact this.symm
  | none =>
    cases hq : rread s with
    | none => rfl
    | some L =>
      obtain ⟨h1, h2⟩ := rread_shows hq
      have := read_of_show (f := at_ L) (n := L.length) h1
      rw [h2, hr] at this
      cases this
end La
end Go.Proofs.Ytieoncjdhileoaa
