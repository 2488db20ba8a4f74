/-
  Texts that are among others; names of files that are not done; steps in order.
-/
import Derived.Test.YtgpmomjdjakklaaSgG
namespace Go.Proofs.Ytgpmomjdjakklaa
open Go.RowKit
set_option maxRecDepth 100000 in
set_option maxHeartbeats 1000000 in
theorem Index_any (A : Option Addr) (c : Nat) (l : List (List UInt8)) (hn : l.length ≤ 1000) (s : ByteArray) (w : World) (hA : Row 1 (tx l) w A l.length) :
    Calls Try.prog 58 #[.slice A l.length c, .string s] w fun e w' => ∃ j : Int, e = .returned (.int .i64 j) ∧ decide (0 ≤ j) = decide (s.data.toList ∈ l) ∧ w' = w := by
  have HA := Lib.hid hA
  obtain ⟨n, hnl⟩ : ∃ n, n = l.length := ⟨_, rfl⟩
  rw [← hnl] at HA hn ⊢
  have HNL := Lib.hid hnl
  clear hA hnl
  go_enter Try.func58, Try.ntmps58
  go_wp2_with fail
  go_loopw [5, 8] (fun _ i wr => ∃ k : Nat, k ≤ n ∧ i = .int .i64 k ∧ (∀ i, i < k → l.getD i [] ≠ s.data.toList) ∧ wr = w) (fun _ i _ => n - (intOf i).toNat)
  case atStart => exact ⟨0, by omega, rfl, fun i hi => by omega, rfl⟩
  case round =>
    obtain ⟨k, hk, rfl, hall, rfl⟩ := hrel
    have HL := Lib.hid hall; clear hall
    by_cases hlt : k < n
    · obtain ⟨ad, rfl, c0, -⟩ := HA.out.at_ (Below.refl _ _) hlt
      have x0 := c0 (by decide)
      rw [Nat.mul_one, show tx l k 0 = .string (bs (l.getD k [])) from rfl] at x0
      have i1 : (k : Int) < (n : Int) := by omega
      have i0 : (0 : Int) ≤ (k : Int) := by omega
      have d1 : decide ((k : Int) < (n : Int)) = true := decide_eq_true i1
      clear c0
      have hmem : l.getD k [] ∈ l := by
        have h : k < l.length := by rw [← HNL.out]; exact hlt
        rw [show l.getD k [] = l[k] by simp [List.getD, h]]
        exact List.getElem_mem h
      by_cases he : l.getD k [] = s.data.toList
      · have HR : Hid (decide (s.data.toList ∈ l) = true) := Lib.hid (decide_eq_true (he ▸ hmem))
        have hbs : bs (l.getD k []) = s := by rw [he]; exact Sf.bs_data s
        rw [hbs] at x0
        have b0 : (s.toList == s.toList) = true := by simp
        clear he HL hmem hbs
        go_wp2_with fail
        go_ret
        exact ⟨(k : Int), rfl, by rw [HR.out]; exact decide_eq_true i0, rfl⟩
      · have HN : Hid (∀ i, i < k + 1 → l.getD i [] ≠ s.data.toList) := Lib.hid (fun i hi => by
          by_cases e : i = k
          · rw [e]; exact he
          · exact HL.out i (by omega))
        have hbs : s ≠ bs (l.getD k []) := fun e => he (by rw [e]; simp [bs])
        clear he HL hmem
        generalize bs (l.getD k []) = u at *
        have b0 : (s.toList == u.toList) = false := by rw [str_beq]; simpa using hbs
        clear hbs
        go_wp2_with fail
        go_roundw
        case rel => exact ⟨k + 1, by omega, by go_num, HN.out, trivial⟩
        case measure => simp [intOf]; omega
    · obtain rfl : k = n := by omega
      have d1 : decide ((k : Int) < (k : Int)) = false := by simp
      have HR : Hid (decide (s.data.toList ∈ l) = false) := Lib.hid (decide_eq_false (fun hm => by
        obtain ⟨i, hi, e⟩ := List.getElem_of_mem hm
        refine HL.out i (by rw [HNL.out]; exact hi) ?_
        rw [show l.getD i [] = l[i] by simp [List.getD, hi]]
        exact e))
      go_wp2_with fail
      go_ret
      exact ⟨-1, rfl, by rw [HR.out]; decide, rfl⟩
set_option maxRecDepth 100000 in
theorem Contains_any (A : Option Addr) (c : Nat) (l : List (List UInt8)) (hn : l.length ≤ 1000) (s : ByteArray) (w : World) (hA : Row 1 (tx l) w A l.length) :
    Calls Try.prog 47 #[.slice A l.length c, .string s] w fun e w' => e = .returned (.bool (decide (s.data.toList ∈ l))) ∧ w' = w := by
  have HI := Lib.hid (Index_any A c l hn s w hA)
  clear hA
  go_enter Try.func47, Try.ntmps47
  go_wp2_with fail
  refine HI.out.mono ?_; rintro e w1 ⟨j, rfl, hj, rfl⟩
  have HJ := Lib.hid hj
  clear hj HI
  go_wp2_with fail
  go_ret
  exact ⟨by rw [← HJ.out]; rfl, rfl⟩
def tmpN : ByteArray := ⟨#[116, 109, 112, 45]⟩
/-- the name of a file that is not done -/
def tmp (s : ByteArray) : ByteArray := tmpN ++ s
theorem tmp_size (s : ByteArray) : (tmp s).size = 4 + s.size := by unfold tmp; rw [ByteArray.size_append]; rfl
theorem Temp_any (s : ByteArray) (hs : s.size ≤ 1000) (w : World) : Calls Try.prog 23 #[.string s] w fun e w' => e = .returned (.string (tmp s)) ∧ w' = w := by
  have hz : ¬ 9223372036854775807 < (⟨#[116, 109, 112, 45]⟩ : ByteArray).size + s.size := by
    show ¬ 9223372036854775807 < 4 + s.size
    omega
  have hz2 : ¬ 9223372036854775807 < 4 + s.size := by omega
  go_enter Try.func23, Try.ntmps23
  go_wp2_with fail
  go_ret
  exact ⟨rfl, rfl⟩
theorem Sf.look_there {d : Sf.D} (hn : Sf.Nice d) (hk : Sf.KS d) (s : ByteArray) : decide (s.data.toList ∈ Sf.list d) = (Sf.look d s).isSome := by
  have e1 : s.data.toList ∈ Sf.list d ↔ Go.Maps.has d (Sf.key s) = true := ((List.mergeSort_perm (strKeys d) leB).mem_iff).trans (Sf.mem_keys hk _)
  cases hl : Sf.look d s with
  | none =>
    have := Sf.look_none hn.files hl
    exact decide_eq_false (fun h => by rw [e1, this] at h; cases h)
  | some x => exact decide_eq_true (e1.2 (Sf.look_some hl))
set_option maxRecDepth 100000 in
theorem isThere_any {W : World} {base fb B N : Nat} {S : Sf.St} {wr : World} (h : Runs W base fb B N S wr) (s : ByteArray) :
    Calls Try.prog 28 #[.pointer (some ⟨fb, 0, none⟩), .string s] wr fun e w' => e = .returned (.bool (Sf.look S.names s).isSome) ∧ Below wr.heap.size wr w' := by
  have HLI := Lib.hid h.list
  have HLT := Lib.hid (Sf.look_there h.ok.nice h.keys s)
  have hf := h.few
  clear h
  go_enter Try.func28, Try.ntmps28
  go_wp2_with fail
  refine HLI.out.mono ?_; rintro e w1 ⟨A, c, rfl, ht, hb⟩
  have HC := Lib.hid (Contains_any A c (Sf.list S.names) (by omega) s w1 ht.row)
  have HB := Lib.hid hb
  clear ht hb HLI
  go_wp2_with fail
  refine HC.out.mono ?_; rintro e w2 ⟨rfl, rfl⟩
  rw [HLT.out]
  go_wp2_with fail
  go_ret
  exact ⟨rfl, HB.out⟩
set_option maxRecDepth 100000 in
theorem Cost_any {W : World} {base fb B N : Nat} {S : Sf.St} {wr : World} (h : Runs W base fb B N S wr) (s : ByteArray) (hs : s.size ≤ 1000) :
    Calls Try.prog 17 #[.pointer (some ⟨fb, 0, none⟩), .string s] wr fun e w' => e = .returned (.int .i64 (if (Sf.look S.names (tmp s)).isSome then 6 else 5)) ∧ Below wr.heap.size wr w' := by
  have HT := Lib.hid (isThere_any h (tmp s))
  have HTE := Lib.hid (fun U => Temp_any s hs U)
  clear h
  generalize (Sf.look S.names (tmp s)).isSome = r at *
  go_enter Try.func17, Try.ntmps17
  go_wp2_with fail
  refine (HTE.out _).mono ?_; rintro e w1 ⟨rfl, rfl⟩
  go_wp2_with fail
  refine HT.out.mono ?_; rintro e w2 ⟨rfl, hb⟩
  have HB := Lib.hid hb
  clear hb HT
  cases r
  · go_wp2_with fail
    go_ret
    exact ⟨rfl, HB.out⟩
  · go_wp2_with fail
    go_ret
    exact ⟨rfl, HB.out⟩
/-- steps in order, up to the first that errs -/
theorem inOrder_any (sb n c : Nat) (hn : n ≤ 100) (fn : Nat → Nat) (fst cap : Nat → Array Value) (I : Nat → World → Prop) (E : Int → World → Prop) (w : World) (h0 : I 0 w)
    (hcell : ∀ i W, i < n → I i W → W.cell? ⟨sb, i, none⟩ = some (.func (.func (fn i)) (fst i) (cap i)))
    (hent : ∀ i, i < n → ∀ args w, (callFunc (fn i) args).run Try.prog w = .ok (.enter (fn i) args) w)
    (hstep : ∀ i W, i < n → I i W → Calls Try.prog (fn i) (fst i ++ cap i) W fun e w' => ∃ er : Int, e = .returned (.int .i64 er) ∧ if er = 0 then I (i + 1) w' else E er w') :
    Calls Try.prog 26 #[.slice (some ⟨sb, 0, none⟩) n c] w fun e w' => ∃ er : Int, e = .returned (.int .i64 er) ∧ if er = 0 then I n w' else E er w' := by
  have HC := Lib.hid hcell; have HE := Lib.hid hent; have HS := Lib.hid hstep
  have H0 := Lib.hid h0
  clear hcell hent hstep h0
  go_enter Try.func26, Try.ntmps26
  go_wp2_with fail
  go_loopw [4, 5, 8] (fun _ _ i wr => ∃ k : Nat, k ≤ n ∧ i = .int .i64 k ∧ I k wr) (fun _ _ i _ => n - (intOf i).toNat)
  case atStart => exact ⟨0, by omega, rfl, H0.out⟩
  case round =>
    obtain ⟨k, hk, rfl, hi⟩ := hrel
    have HI := Lib.hid hi; clear hi
    by_cases hlt : k < n
    · have i1 : (k : Int) < (n : Int) := by omega
      have i0 : (0 : Int) ≤ (k : Int) := by omega
      have d1 : decide ((k : Int) < (n : Int)) = true := decide_eq_true i1
      have x0 := HC.out k wr hlt HI.out
      have he := HE.out k hlt
      have HCA := Lib.hid (HS.out k wr hlt HI.out)
      generalize fn k = f at *
      generalize fst k = a at *
      generalize cap k = p at *
      have HK1 : Hid (k + 1 ≤ n) := Lib.hid hlt
      go_wp2_with fail
      refine HCA.out.mono ?_; rintro e w3 ⟨er, rfl, hw⟩
      have HW := Lib.hid hw
      clear hw x0 he HCA HI
      by_cases h0 : er = 0
      · subst h0
        have HI3 : Hid (I (k + 1) w3) := Lib.hid (by have := HW.out; rwa [if_pos rfl] at this)
        clear HW
        go_wp2_with fail
        go_roundw
        case rel => exact ⟨k + 1, HK1.out, by go_num, HI3.out⟩
        case measure => simp [intOf]; omega
      · have d2 : (er != 0) = true := by simpa using h0
        have d3 : (er == 0) = false := by simpa using h0
        have d4 : decide (er = 0) = false := decide_eq_false h0
        have HH := Lib.hid h0
        clear h0
        go_wp2_with fail
        go_ret
        exact ⟨er, rfl, by have := HW.out; rw [if_neg HH.out] at this ⊢; exact this⟩
    · obtain rfl : k = n := by omega
      have d1 : decide ((k : Int) < (k : Int)) = false := by simp
      go_wp2_with fail
      go_ret
      exact ⟨0, rfl, by rw [if_pos rfl]; exact HI.out⟩
end Go.Proofs.Ytgpmomjdjakklaa
