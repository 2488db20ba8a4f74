import Derived.Test.YtliobahnekohmaaGreatLaM
import Derived.Test.YtliobahnekohmaaGreatNumO
/-
  Labels: the mathematics of their key and of how they are shown.
-/
namespace Go.Proofs.YtliobahnekohmaaGreat
namespace La
def listOf (f : Nat → Lab) (n : Nat) : List Lab := (List.range n).map f
theorem listOf_length (f : Nat → Lab) (n : Nat) : (listOf f n).length = n := by simp [listOf]
theorem at_listOf (f : Nat → Lab) (n i : Nat) (h : i < n) : at_ (listOf f n) i = f i := by simp [at_, listOf, List.getD, h]
theorem listOf_succ (f : Nat → Lab) (n : Nat) : listOf f (n + 1) = listOf f n ++ [f n] := by simp [listOf, List.range_succ]
theorem listOf_at (L : List Lab) : listOf (at_ L) L.length = L := by
  apply List.ext_getElem
  · simp [listOf]
  · intro i h1 h2
    simp [listOf, at_, List.getD, h2]
theorem eq_of_same {f g : Nat → Lab} {n : Nat} (h : ∀ i, i < n → f i = g i) : listOf f n = listOf g n := by
  unfold listOf
  exact List.map_congr_left (fun i hi => h i (List.mem_range.1 hi))
theorem same_iff (f g : Nat → Lab) (n m : Nat) : (decide (n = m) && same f g n) = true ↔ listOf f n = listOf g m := by
  constructor
  · intro h
    rw [Bool.and_eq_true, decide_eq_true_eq] at h
    obtain ⟨rfl, h⟩ := h
    unfold same at h
    exact eq_of_same (fun i hi => by simpa using List.all_eq_true.1 h i (List.mem_range.2 hi))
  · intro h
    have hl := congrArg List.length h
    rw [listOf_length, listOf_length] at hl
    subst hl
    rw [decide_eq_true rfl, Bool.true_and]
    unfold same
    rw [List.all_eq_true]
    intro i hi
    have hi2 := List.mem_range.1 hi
    have := congrArg (fun l => at_ l i) h
    simp only [at_listOf _ _ _ hi2] at this
    exact decide_eq_true this
/-- keys of lists -/
def listKey (L : List Lab) : List UInt8 := L.flatMap fun x => txt x.1 ++ txt x.2
theorem key_list (f : Nat → Lab) : ∀ n, key f n = listKey (listOf f n)
  | 0 => rfl
  | n + 1 => by rw [key, key_list f n, listOf_succ]; simp [listKey]
theorem txt_app (a : ByteArray) (r : List UInt8) : (⟨(txt a ++ r).toArray⟩ : ByteArray) = (Num.smallB a.size ++ a) ++ ⟨r.toArray⟩ := by
  apply ByteArray.ext; apply Array.toList_inj.1
  rw [Num.app_list]; simp [txt]
theorem xOk_app (a : ByteArray) (r : List UInt8) (h : a.size ≤ 48) : Num.xOk 48 ⟨(txt a ++ r).toArray⟩ = true ∧ Num.xV ⟨(txt a ++ r).toArray⟩ = a ∧ (⟨(txt a ++ r).toArray⟩ : ByteArray).extract (Num.xN ⟨(txt a ++ r).toArray⟩) (⟨(txt a ++ r).toArray⟩ : ByteArray).size = ⟨r.toArray⟩ := by
  rw [txt_app]
  obtain ⟨h1, h2, h3⟩ := Num.text_app a ⟨r.toArray⟩ (by omega)
  refine ⟨?_, h2, ?_⟩
  · unfold Num.xOk at h1 ⊢
    simp only [Bool.and_eq_true, decide_eq_true_eq] at h1 ⊢
    exact ⟨h1.1, by omega, by omega, h1.2.2.2⟩
  · rw [h3, Num.drop_app]
theorem nm_ok {s : ByteArray} (h : Num.xOk 48 s = true) : nm false s = Num.xV s ∧ nx false s = s.extract (Num.xN s) s.size ∧ nb false s = false := by
  simp [nm, nx, nb, Num.curV, h]
theorem ofLoop_bad (k : Nat) (L : List Lab) (s : ByteArray) : (ofLoop k L s true).2.2 = true := by
  cases k
  · rfl
  · unfold ofLoop; simp
theorem nb_ok {bad : Bool} {s : ByteArray} (h : nb bad s = false) : bad = false ∧ Num.xOk 48 s = true := by
  unfold nb at h; cases bad <;> simp at h
  exact ⟨rfl, h⟩
theorem txt_back {s : ByteArray} (h : Num.xOk 48 s = true) : s.data.toList = txt (nm false s) ++ (nx false s).data.toList := by
  obtain ⟨h1, h2, _⟩ := nm_ok h
  have := (Num.text_back 48 s h).1
  rw [h1, h2]
  have e := congrArg (fun b : ByteArray => b.data.toList) this
  simp only [Num.app_list] at e
  rw [← e]; simp [txt]
theorem ofLoop_key : ∀ (k : Nat) (L : List Lab) (s : ByteArray), (ofLoop k L s false).2.2 = false → listKey (ofLoop k L s false).1 ++ (ofLoop k L s false).2.1.data.toList = listKey L ++ s.data.toList
  | 0, _, _, _ => rfl
  | k + 1, L, s, h => by
    unfold ofLoop at h ⊢
    split at h
    · rename_i hc
      rw [if_pos hc]
      cases hb : nb (nb false s) (nx false s)
      · rw [hb] at h
        obtain ⟨hb1, hx2⟩ := nb_ok hb
        obtain ⟨_, hx1⟩ := nb_ok hb1
        rw [ofLoop_key k _ _ h, hb1]
        have e1 := txt_back hx1
        have e2 := txt_back hx2
        rw [e1, e2]; simp [listKey]
      · rw [hb, ofLoop_bad] at h; cases h
    · rename_i hc
      rw [if_neg hc]
theorem of_key {s : ByteArray} {L : List Lab} (h : of s = some L) : rightL L = true ∧ keyB (at_ L) L.length = s := by
  unfold of at h
  split at h
  · rename_i hc
    obtain ⟨h1, h2, h3⟩ := hc
    have hk := ofLoop_key 6 [] s h2
    cases h
    refine ⟨h3, ?_⟩
    have hz : (ofLoop 6 [] s false).2.1.data.toList = [] := by
      apply List.eq_nil_of_length_eq_zero; rw [← Lib.size_eq]; exact h1
    rw [hz, List.append_nil] at hk
    unfold keyB
    rw [key_list, listOf_at, hk]
    exact Lib.mk_data s
  · cases h
theorem ofLoop_list : ∀ (k : Nat) (M L : List Lab), M.length ≤ k → (∀ x ∈ M, x.1.size ≤ 48 ∧ x.2.size ≤ 48) → ofLoop k L ⟨(listKey M).toArray⟩ false = (L ++ M, ⟨#[]⟩, false)
  | 0, [], L, _, _ => by rw [List.append_nil]; rfl
  | k + 1, [], L, _, _ => by rw [List.append_nil]; unfold ofLoop; rw [if_neg (fun e => e.1 rfl)]; rfl
  | 0, x :: M, L, h, _ => by simp at h
  | k + 1, x :: M, L, h, hs => by
    have e : listKey (x :: M) = txt x.1 ++ (txt x.2 ++ listKey M) := by simp [listKey]
    have hx := hs x (List.mem_cons_self ..)
    obtain ⟨h1, h2, h3⟩ := xOk_app x.1 (txt x.2 ++ listKey M) hx.1
    obtain ⟨g1, g2, g3⟩ := xOk_app x.2 (listKey M) hx.2
    obtain ⟨p1, p2, p3⟩ := nm_ok h1
    obtain ⟨q1, q2, q3⟩ := nm_ok g1
    have hne : (⟨(listKey (x :: M)).toArray⟩ : ByteArray).size ≠ 0 := by
      rw [size_mk, e]
      have : 0 < (txt x.1).length := by
        have h1 : (Num.smallB x.1.size).size ≠ 0 := by
          have := Num.enc_length_pos 9 x.1.size
          have h2 : (Num.smallB x.1.size).size = (Num.small x.1.size).length := size_mk _
          rw [h2]; unfold Num.small; omega
        have h2 : (txt x.1).length = (Num.smallB x.1.size ++ x.1).size := by simp [txt]
        rw [h2, ByteArray.size_append]; omega
      rw [List.length_append]; omega
    unfold ofLoop
    rw [if_pos ⟨hne, rfl⟩, e, p3, p1, p2, h2, h3, q1, q2, q3, g2, g3]
    rw [ofLoop_list k M (L ++ [(x.1, x.2)]) (by simpa using h) (fun y hy => hs y (List.mem_cons_of_mem _ hy))]
    simp
theorem right_list {f : Nat → Lab} {n : Nat} (h : right f n = true) : rightL (listOf f n) = true := by
  obtain ⟨h1, h2, h3⟩ := right_parts h
  unfold rightL
  rw [listOf_length]
  apply right_yes _ _ h1 h2
  rw [List.all_eq_true]
  intro i hi
  have hi := List.mem_range.1 hi
  obtain ⟨g1, g2, g3⟩ := h3 i hi
  unfold okAt
  rw [at_listOf f n i hi, at_listOf f n (i - 1) (by omega), g1, g2]
  rcases g3 with rfl | g3
  · rfl
  · rw [g3]; simp
theorem of_of_key {f : Nat → Lab} {n : Nat} (h : right f n = true) : of (keyB f n) = some (listOf f n) := by
  obtain ⟨h1, h2, h3⟩ := right_parts h
  have e : ofLoop 6 [] (keyB f n) false = (listOf f n, ⟨#[]⟩, false) := by
    unfold keyB
    rw [key_list, ofLoop_list 6 (listOf f n) [] (by rw [listOf_length]; exact h2), List.nil_append]
    intro x hx
    obtain ⟨i, hi, rfl⟩ := List.mem_map.1 hx
    have := h3 i (List.mem_range.1 hi)
    exact ⟨(okName_size this.1).2, (allB_pos this.2.1).2⟩
  unfold of
  rw [e, if_pos ⟨rfl, rfl, right_list h⟩]
end La
end Go.Proofs.YtliobahnekohmaaGreat
/-
  Two rows of labels with one key are the same.
-/
namespace Go.Proofs.YtliobahnekohmaaGreat
open Go.RowKit
namespace La
theorem key_inj {f g : Nat → Lab} {n m : Nat} (h1 : right f n = true) (h2 : right g m = true) : keyB f n = keyB g m ↔ listOf f n = listOf g m := by
  constructor
  · intro h
    have e1 := of_of_key h1
    have e2 := of_of_key h2
    rw [h, e2] at e1
    exact (Option.some.inj e1).symm
  · intro h
    unfold keyB
    rw [key_list, key_list, h]
end La
end Go.Proofs.YtliobahnekohmaaGreat
