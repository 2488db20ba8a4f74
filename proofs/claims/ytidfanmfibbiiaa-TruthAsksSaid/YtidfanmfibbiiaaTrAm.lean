/-
  TruthAsks: of states as mathematics.
-/
import Derived.Test.YtidfanmfibbiiaaTrHe
namespace Go.Proofs.Ytidfanmfibbiiaa
open Go.RowKit
theorem fit_nil (l : List Lab) : par.fit ((List.range 0).map noMat) l = true := rfl
theorem some_iff (q : SerAt) : Tr.some_ q.ser = decide (0 < q.sn) := by
  unfold Tr.some_ SerAt.ser
  cases h : q.sn with
  | zero => simp
  | succ k => simp
theorem asks_all {S : Tr.Stt (List Lab)} (hok : Tr.Ok par S) : Tr.askS par ((List.range 0).map noMat) 0 1125899906842624 S.ser = (S.ser.filter Tr.some_).map Tr.shown := by
  have h := Tr.ask_all hok ((List.range 0).map noMat)
  have e : S.ser.filter (fun x => par.fit ((List.range 0).map noMat) x.l && Tr.some_ x) = S.ser.filter Tr.some_ := List.filter_congr (fun x _ => by rw [fit_nil, Bool.true_and])
  rw [e] at h
  exact h
/-- how many of the first k have samples -/
def cntSn (q : Nat → SerAt) : Nat → Nat
  | 0 => 0
  | k + 1 => cntSn q k + (if 0 < (q k).sn then 1 else 0)
theorem cnt_le (q : Nat → SerAt) : ∀ k, cntSn q k ≤ k
  | 0 => Nat.le_refl 0
  | k + 1 => by
    have := cnt_le q k
    unfold cntSn
    split <;> omega
theorem cnt_eq (q : Nat → SerAt) (k : Nat) : ((sers q k).filter Tr.some_).length = cntSn q k := by
  induction k with
  | zero => rfl
  | succ k ih =>
    unfold sers at ih ⊢
    rw [List.range_succ, List.map_append, List.filter_append, List.length_append, ih]
    show _ = cntSn q k + (if 0 < (q k).sn then 1 else 0)
    congr 1
    rw [List.map_cons, List.map_nil, List.filter_cons, some_iff]
    by_cases h : 0 < (q k).sn
    · rw [decide_eq_true h, if_pos rfl, if_pos h]; rfl
    · rw [decide_eq_false h, if_neg h]; rfl
theorem asks_cnt {q aq : Nat → SerAt} {n m : Nat} {fl : Int} (hok : Tr.Ok par ⟨sers q n, fl⟩) (h : sers aq m = Tr.askS par ((List.range 0).map noMat) 0 1125899906842624 (sers q n)) : m = cntSn q n := by
  have h2 := asks_all hok
  rw [← sers_length aq m, h, h2, List.length_map, cnt_eq]
theorem asks_one {q aq : Nat → SerAt} {n m i : Nat} {fl : Int} (hok : Tr.Ok par ⟨sers q n, fl⟩) (h : sers aq m = Tr.askS par ((List.range 0).map noMat) 0 1125899906842624 (sers q n)) (hi : i < m) :
    ∃ j, j < n ∧ findI (sers q n) (La.listOf (aq i).f (aq i).ln) = (j : Int) ∧ (aq i).sn = (q j).sn ∧ 0 < (aq i).sn ∧ fl ≤ ((aq i).s 0).t := by
  have h2 := asks_all hok
  have hx : (aq i).ser ∈ ((sers q n).filter Tr.some_).map Tr.shown := by
    rw [← h2]
    exact h ▸ List.mem_map.2 ⟨i, List.mem_range.2 hi, rfl⟩
  obtain ⟨x, hx1, hx2⟩ := List.mem_map.1 hx
  obtain ⟨hx3, hx4⟩ := List.mem_filter.1 hx1
  obtain ⟨j, hj, rfl⟩ := List.mem_map.1 hx3
  have hj := List.mem_range.1 hj
  rw [some_iff] at hx4
  have hsn := of_decide_eq_true hx4
  have e1 : (aq i).labs = (q j).labs := (congrArg Tr.Ser.l hx2).symm
  have e2 : (List.range (aq i).sn).map (aq i).s = (List.range (q j).sn).map (q j).s := (congrArg Tr.Ser.s hx2).symm
  have e3 : (aq i).sn = (q j).sn := by simpa using congrArg List.length e2
  refine ⟨j, hj, ?_, e3, by omega, ?_⟩
  · have hf := Tr.find_at par_good hok (sers_get (q := q) hj)
    have e4 : La.listOf (aq i).f (aq i).ln = (q j).ser.l := e1
    unfold findI
    rw [e4]
    have hf2 : Tr.find (sers q n) (q j).ser.l = some j := hf
    rw [hf2]
  · have hl := (hok.each _ hx3).low
    refine hl ((aq i).s 0) ?_
    show (aq i).s 0 ∈ (List.range (q j).sn).map (q j).s
    rw [← e2]
    exact List.mem_map.2 ⟨0, List.mem_range.2 (by omega), rfl⟩
/-- what of the wanted is still to be met, lies in what still comes -/
def Gr (M L : List (List Lab)) (k i : Nat) : Prop := (M.drop k).Sublist (L.drop i)
theorem gr_hit {M L : List (List Lab)} {k i : Nat} (h : Gr M L k i) (hk : k < M.length) (hi : i < L.length) (e : M[k] = L[i]) : Gr M L (k + 1) (i + 1) := by
  unfold Gr at *
  rw [List.drop_eq_getElem_cons hk, List.drop_eq_getElem_cons hi, e] at h
  exact List.cons_sublist_cons.1 h
theorem gr_miss {M L : List (List Lab)} {k i : Nat} (h : Gr M L k i) (hi : i < L.length) (e : ∀ hk : k < M.length, M[k] ≠ L[i]) : Gr M L k (i + 1) := by
  unfold Gr at *
  by_cases hk : k < M.length
  · rw [List.drop_eq_getElem_cons hk, List.drop_eq_getElem_cons hi] at h
    rw [List.drop_eq_getElem_cons hk]
    have e2 := e hk
    clear e
    generalize M[k] = a at *
    generalize L[i] = b at *
    cases h with
    | cons _ h => exact h
    | cons_cons _ h => exact absurd rfl e2
  · rw [List.drop_eq_nil_of_le (by omega)]
    exact List.nil_sublist _
theorem gr_end {M L : List (List Lab)} {k : Nat} (h : Gr M L k L.length) (hk : k ≤ M.length) : k = M.length := by
  unfold Gr at h
  rw [List.drop_length] at h
  have := congrArg List.length (List.sublist_nil.1 h)
  simp at this
  omega
def labsL (q : Nat → SerAt) (m : Nat) : List (List Lab) := (sers q m).map Tr.Ser.l
theorem labsL_len (q : Nat → SerAt) (m : Nat) : (labsL q m).length = m := by unfold labsL; rw [List.length_map, sers_length]
theorem labsL_get (q : Nat → SerAt) {m i : Nat} (h : i < (labsL q m).length) : (labsL q m)[i] = La.listOf (q i).f (q i).ln := by
  unfold labsL sers
  simp [SerAt.ser, SerAt.labs]
theorem gr_start {q aq bq : Nat → SerAt} {n m k : Nat} {fl : Int} (hok : Tr.Ok par ⟨sers q n, fl⟩) {mm : List Mat} (h : sers aq m = Tr.askS par ((List.range 0).map noMat) 0 1125899906842624 (sers q n)) (h2 : sers bq k = Tr.askS par mm 0 1125899906842624 (sers q n)) : Gr (labsL bq k) (labsL aq m) 0 0 := by
  unfold Gr labsL
  rw [List.drop_zero, List.drop_zero, h, h2]
  exact Tr.asked_sub hok fit_nil mm
theorem find_one (q : SerAt) (l : List Lab) : findI (sers (fun _ => q) 1) l = if La.listOf q.f q.ln = l then 0 else -1 := by
  by_cases h : La.listOf q.f q.ln = l
  · rw [if_pos h]
    exact findI_some (k := 0) (y := q.ser) rfl h (fun i z hi => by omega)
  · rw [if_neg h]
    refine findI_none (fun i y hy e => ?_)
    have hy2 : y = q.ser := by
      have hi : i < (sers (fun _ => q) 1).length := (List.getElem?_eq_some_iff.1 hy).1
      rw [sers_length] at hi
      obtain rfl : i = 0 := by omega
      cases hy
      rfl
    rw [hy2] at e
    exact h e
end Go.Proofs.Ytidfanmfibbiiaa
