/-
  Labels: what is shown is read again.
-/
import Derived.Test.YtieoncjdhileoaaLaP
namespace Go.Proofs.Ytieoncjdhileoaa
namespace La
/-- one label as it is shown -/
def item (x : Lab) : List UInt8 := x.1.data.toList ++ [61, 34] ++ esc x.2.data.toList ++ [34]
/-- labels as they are shown, and what ends them -/
def line : List Lab → List UInt8 → List UInt8
  | [], e => e
  | [x], e => item x ++ e
  | x :: y :: M, e => item x ++ 44 :: line (y :: M) e
theorem line_snoc (x : Lab) (e : List UInt8) : ∀ (M : List Lab) (y : Lab), line (y :: M ++ [x]) e = line (y :: M) (44 :: (item x ++ e))
  | [], y => rfl
  | z :: M, y => by
    have h := line_snoc x e M z
    show item y ++ 44 :: line (z :: M ++ [x]) e = item y ++ 44 :: line (z :: M) _
    rw [h]
theorem shown_line (f : Nat → Lab) : ∀ (n : Nat) (e : List UInt8), shown f (n + 1) ++ e = 123 :: line (listOf f (n + 1)) e
  | 0, e => by simp [shown, listOf, line, item]
  | n + 1, e => by
    have h := shown_line f n (44 :: (item (f (n + 1)) ++ e))
    have hl : listOf f (n + 1) ≠ [] := fun h => by have := congrArg List.length h; rw [listOf_length] at this; cases this
    obtain ⟨y, M, hy⟩ := List.exists_cons_of_ne_nil hl
    rw [listOf_succ f (n + 1), hy, line_snoc, ← hy, ← h, shown, if_neg (by omega)]
    simp [item]
theorem word_snoc (r : List UInt8) : ∀ (v a : List UInt8), word (esc v ++ 34 :: r) a = some (a ++ v, r)
  | [], a => by
    show word (34 :: r) a = _
    cases r <;> simp [word]
  | c :: v, a => by
    have h := word_snoc r v (a ++ [c])
    have hc : esc (c :: v) = (if c = 34 ∨ c = 92 then [92, c] else [c]) ++ esc v := rfl
    rw [hc]
    by_cases h1 : c = 34 ∨ c = 92
    · rw [if_pos h1]
      show word (92 :: c :: (esc v ++ 34 :: r)) a = _
      rw [word, if_pos rfl, h]; simp
    · rw [if_neg h1]
      obtain ⟨d, t, ht⟩ : ∃ d t, esc v ++ 34 :: r = d :: t := List.exists_cons_of_ne_nil (by simp)
      show word (c :: (esc v ++ 34 :: r)) a = _
      rw [ht, word, if_neg (fun e => h1 (.inr e)), if_neg (fun e => h1 (.inl e)), ← ht, h]; simp
theorem index_name (t : List UInt8) : ∀ nm : List UInt8, (∀ b ∈ nm, b ≠ 61) → Lib.index (nm ++ 61 :: 34 :: t) [61, 34] = nm.length
  | [], _ => by simp [Lib.index]
  | c :: nm, h => by
    have h1 := index_name t nm (fun b hb => h b (List.mem_cons_of_mem _ hb))
    have hc : c ≠ 61 := h c (List.mem_cons_self ..)
    show Lib.index (c :: (nm ++ 61 :: 34 :: t)) [61, 34] = _
    unfold Lib.index
    rw [h1]
    have h2 : List.isPrefixOf [61, 34] (c :: (nm ++ 61 :: 34 :: t)) = false := by
      simp [List.isPrefixOf]; intro e; exact absurd e.symm hc
    rw [h2]
    have h3 : (((nm.length : Nat) : Int) == -1) = false := by rw [beq_eq_false_iff_ne]; omega
    simp [h3]
theorem cut_name (nm t : List UInt8) (h : ∀ b ∈ nm, b ≠ 61) : Lib.cut (nm ++ 61 :: 34 :: t) [61, 34] = (nm, t, true) := by
  unfold Lib.cut
  rw [index_name t nm h, if_pos (by omega)]
  simp
theorem okName_no61 {s : ByteArray} (h : okName s = true) : ∀ b ∈ s.data.toList, b ≠ 61 := by
  intro b hb e
  subst e
  unfold okName allB at h
  simp only [Bool.and_eq_true] at h
  have := List.all_eq_true.1 h.1.1 61 hb
  exact absurd this (by decide)
theorem cut_end : Lib.cut [125] [61, 34] = ([125], [], false) := by decide
theorem readLoop_line : ∀ (k : Nat) (M L : List Lab), M.length + 1 ≤ k → (∀ x ∈ M, okName x.1 = true) → ∀ x, okName x.1 = true → readLoop k L (line (x :: M) [125]) = L ++ x :: M
  | 0, _, _, h, _, _, _ => by omega
  | k + 1, [], L, _, _, x, hx => by
    have e : line [x] [125] = x.1.data.toList ++ 61 :: 34 :: (esc x.2.data.toList ++ 34 :: [125]) := by simp [line, item]
    rw [readLoop_succ, e, cut_name _ _ (okName_no61 hx)]
    simp only [word_snoc, List.nil_append]
    have ht : Lib.trimPrefix [125] [44] = [125] := by decide
    rw [ht, Lib.mk_data, Lib.mk_data]
    cases k with
    | zero => rfl
    | succ k => rw [readLoop_succ, cut_end]; rfl
  | k + 1, y :: M, L, h, hM, x, hx => by
    have e : line (x :: y :: M) [125] = x.1.data.toList ++ 61 :: 34 :: (esc x.2.data.toList ++ 34 :: (44 :: line (y :: M) [125])) := by simp [line, item]
    rw [readLoop_succ, e, cut_name _ _ (okName_no61 hx)]
    simp only [word_snoc, List.nil_append]
    have ht : Lib.trimPrefix (44 :: line (y :: M) [125]) [44] = line (y :: M) [125] := by simp [Lib.trimPrefix, Lib.hasPrefix]
    rw [ht, Lib.mk_data, Lib.mk_data, readLoop_line k M (L ++ [(x.1, x.2)]) (by simpa using h) (fun z hz => hM z (List.mem_cons_of_mem _ hz)) y (hM y (List.mem_cons_self ..))]
    simp
theorem showB_eq {f g : Nat → Lab} {n : Nat} (h : ∀ i, i < n → f i = g i) : showB f n = showB g n := by
  have : ∀ k, k ≤ n → shown f k = shown g k := by
    intro k
    induction k with
    | zero => intro _; rfl
    | succ k ih =>
      intro hk
      rw [shown, shown, ih (by omega), h k (by omega)]
  unfold showB
  rw [this n (Nat.le_refl _)]
theorem read_of_show {f : Nat → Lab} {n : Nat} (h : right f n = true) : read (showB f n) = some (listOf f n) := by
  obtain ⟨h1, h2, h3⟩ := right_parts h
  obtain ⟨m, rfl⟩ : ∃ m, n = m + 1 := ⟨n - 1, by omega⟩
  have hl : readL (showB f (m + 1)) = listOf f (m + 1) := by
    unfold readL showB
    have e : (⟨(shown f (m + 1) ++ [125]).toArray⟩ : ByteArray).data.toList = 123 :: line (listOf f (m + 1)) [125] := by
      rw [← shown_line]
    rw [e]
    have ht : Lib.trimPrefix (123 :: line (listOf f (m + 1)) [125]) [123] = line (listOf f (m + 1)) [125] := by simp [Lib.trimPrefix, Lib.hasPrefix]
    rw [ht]
    have hne : listOf f (m + 1) ≠ [] := fun h => by have := congrArg List.length h; rw [listOf_length] at this; cases this
    obtain ⟨y, M, hy⟩ := List.exists_cons_of_ne_nil hne
    have hall : ∀ x ∈ listOf f (m + 1), okName x.1 = true := fun x hx => by
      obtain ⟨i, hi, rfl⟩ := List.mem_map.1 hx
      exact (h3 i (List.mem_range.1 hi)).1
    have hlen := listOf_length f (m + 1)
    rw [hy] at hall hlen ⊢
    rw [List.length_cons] at hlen
    rw [readLoop_line 6 M [] (by omega) (fun x hx => hall x (List.mem_cons_of_mem _ hx)) y (hall y (List.mem_cons_self ..)), List.nil_append]
  unfold read
  rw [hl, if_pos]
  refine ⟨right_list h, ?_⟩
  rw [listOf_length]
  exact showB_eq (fun i hi => at_listOf f _ i hi)
theorem key_inj {f g : Nat → Lab} {n m : Nat} (h1 : right f n = true) (h2 : right g m = true) : keyB f n = keyB g m ↔ listOf f n = listOf g m := by
  constructor
  · intro h
    have e1 := of_of_key h1
    have e2 := of_of_key h2
    rw [h, e2] at e1
    exact (Option.some.inj e1).symm
  · intro h
    unfold keyB
    rw [key_list, key_list, h]
theorem show_inj {f g : Nat → Lab} {n m : Nat} (h1 : right f n = true) (h2 : right g m = true) : showB f n = showB g m ↔ listOf f n = listOf g m := by
  constructor
  · intro h
    have e1 := read_of_show h1
    have e2 := read_of_show h2
    rw [h, e2] at e1
    exact (Option.some.inj e1).symm
  · intro h
    have hl := congrArg List.length h
    rw [listOf_length, listOf_length] at hl
    subst hl
    exact showB_eq (fun i hi => by rw [← at_listOf f n i hi, ← at_listOf g n i hi, h])
end La
end Go.Proofs.Ytieoncjdhileoaa
