/-
  IndexApart: the walk.
-/
import Derived.Test.YtliobahnekohmaaGreatIwD
namespace Go.Proofs.YtliobahnekohmaaGreat
open Go.RowKit
theorem Ix.valid_less {L : List Ix.Ent} {g : Int} (h : Ix.valid L g = 0) (n : Nat) : Ix.valid (L.take n) g = 0 := by
  unfold Ix.valid at h ⊢
  split at h
  · cases h
  rename_i h1
  split at h
  · cases h
  rename_i h2
  split at h
  · cases h
  rename_i h3
  have hl : (L.take n).length ≤ L.length := by rw [List.length_take]; omega
  have a1 : ¬ (Ix.isG g = false ∨ 20 < (L.take n).length) := by
    rintro (h | h)
    · exact h1 (Or.inl h)
    · exact h1 (Or.inr (by omega))
  have a2 : Ix.okAll L = true := by simpa using h2
  have a3 : Ix.fits g L = true := by simpa using h3
  have hat : ∀ i, i < (L.take n).length → Ix.at_ (L.take n) i = Ix.at_ L i := fun i hi => by
    rw [List.length_take] at hi
    unfold Ix.at_
    rw [List.getD_eq_getElem?_getD, List.getD_eq_getElem?_getD, List.getElem?_take_of_lt (by omega)]
  have b2 : Ix.okAll (L.take n) = true := by
    unfold Ix.okAll at a2 ⊢
    rw [List.all_eq_true] at a2 ⊢
    intro i hi
    have hi2 := List.mem_range.1 hi
    have h4 := a2 i (List.mem_range.2 (by omega))
    rw [hat i hi2]
    have e : Ix.okE (L.take n) i (Ix.at_ L i) = Ix.okE L i (Ix.at_ L i) := by
      unfold Ix.okE
      cases i with
      | zero => simp
      | succ j =>
        have := hat j (by omega)
        unfold Ix.at_ at this
        rw [show j + 1 - 1 = j from rfl, this]
    rw [e]; exact h4
  have b3 : Ix.fits g (L.take n) = true := by
    unfold Ix.fits at a3 ⊢
    rw [List.all_eq_true] at a3 ⊢
    intro e he
    exact a3 e (List.mem_of_mem_take he)
  rw [if_neg a1, if_neg (by rw [b2]; decide), if_neg (by rw [b3]; decide)]
theorem entL_less (q : Nat → EAt) {n k : Nat} (h : k ≤ n) : entL q k = (entL q n).take k := by
  unfold entL
  rw [← List.map_take, List.take_range, Nat.min_eq_left h]
open Go.ChangeShapes Go.WideShapes Go.Deep in
theorem cap_of {H : Type} {enc : TypeId × Value → H} {w : World} {spare : Nat → Bool} {held : Bool} {A : Option Addr} {n c : Nat} {d : DataW H} {p : List MemPlace} (h : DataW.Trod enc Tryz.prog w 0 spare held 22 (.slice A n c) d p) : n ≤ c := by
  obtain ⟨fuel, hf⟩ := h
  rcases open_slice Tryz.underlying22 hf with ⟨hcs, _⟩ | ⟨a, len, cap, m, n', D, Pl, hcs, _, hl, hm, hmm, _, hi⟩
  · have := (List.cons.inj hcs).1
    cases this
    exact Nat.le_refl _
  · have := (List.cons.inj hcs).1
    cases this
    exact hl
set_option maxRecDepth 100000 in
set_option maxHeartbeats 8000000 in
theorem indexApart_walk {H : Type} {enc : TypeId × Value → H} {r0 : Reach} {b0 : Nat} {v0 : Value} {d0 : DataW H} {p0 : List MemPlace} {r1 : Reach} {b1 : Nat} {v1 : Value} {d1 : DataW H} {p1 : List MemPlace} (w : World)
    (o0 : Value.okWide Tryz.prog w r0 b0 22 v0) (k0 : DataW.Trod enc Tryz.prog w 0 (fun _ => true) true 22 v0 d0 p0)
    (o1 : Value.okWide Tryz.prog w r1 b1 22 v1) (k1 : DataW.Trod enc Tryz.prog w 0 (fun _ => true) true 22 v1 d1 p1)
    (g : Int) (_wg : (Lit.int .i64 g).wf = true) :
    Calls Tryz.prog 8 #[v0, v1, .int .i64 g] w fun e w' => e = .returned (.bool true) ∧ Below w.heap.size w w' := by
  obtain ⟨A, n, c, q, rfl, hn, -, hA⟩ := open_ents o0 k0
  have hnc := cap_of k0
  obtain ⟨B, m, cm, p, rfl, hm, -, hB⟩ := open_ents o1 k1
  clear o0 k0 o1 k1
  have HA := Lib.hid hA; have HBM := Lib.hid hB
  have HF := Lib.hid (fun U (hU : Below w.heap.size w U) => few_any A n c hn q U (HA.out.later hU))
  have HF2 := Lib.hid (fun U (hU : Below w.heap.size w U) => few_any B m cm hm p U (HBM.out.later hU))
  clear hA hB
  go_enter Tryz.func8, Tryz.ntmps8
  go_wp2_with fail
  refine (works_any _).mono ?_; rintro e w1 ⟨rfl, hb1⟩
  have HB1 := Lib.hid hb1
  clear hb1
  go_wp2_with fail
  refine (HF.out _ HB1.out).mono ?_; rintro e w2 ⟨rfl, hb2⟩
  have HB2 := Lib.hid (below_step HB1.out hb2)
  clear hb2 HB1 HF
  obtain ⟨f1, hf1⟩ : ∃ f1, f1 = fewR q n := ⟨_, rfl⟩
  rw [← hf1]
  have HFW := Lib.hid hf1
  clear hf1
  cases f1 with
  | false =>
    go_wp2_with fail
    go_ret
    exact ⟨rfl, HB2.out⟩
  | true =>
    go_wp2_with fail
    refine (HF2.out _ HB2.out).mono ?_; rintro e w3 ⟨rfl, hb3⟩
    have HB3 := Lib.hid (below_step HB2.out hb3)
    clear hb3 HB2 HF2
    obtain ⟨f2, hf2⟩ : ∃ f2, f2 = fewR p m := ⟨_, rfl⟩
    rw [← hf2]
    have HFV := Lib.hid hf2
    clear hf2
    cases f2 with
    | false =>
      go_wp2_with fail
      go_ret
      exact ⟨rfl, HB3.out⟩
    | true =>
      have hin := (HA.out.in_ HFW.out.symm).later HB3.out
      have hjn := (HBM.out.in_ HFV.out.symm).later HB3.out
      have HIN := Lib.hid hin; have HJN := Lib.hid hjn
      have HP := Lib.hid (Put_any A n c q g w3 hin)
      have HQ := Lib.hid (fun U (hU : Below w3.heap.size w3 U) => Put_any B m cm p g U (HJN.out.later hU))
      have e1 := Ix.put_err g (entL q n)
      have e2 := Ix.put_err g (entL p m)
      have hinj := Ix.put_inj (g := g) (L := entL q n) (M := entL p m)
      have HSM := Lib.hid (fun U (hU : Below w3.heap.size w3 U) => ISame_any A B n m c cm q p U (HIN.out.later hU) (HJN.out.later hU))
      have hlast : Hid (Ix.valid (entL q n) g = 0 → ∀ U, Below w3.heap.size w3 U → Calls Tryz.prog 16 #[.slice A ((n - 1 : Nat) : Nat) c, .int .i64 g] U fun e w' => e = .returned (.int .i64 0) ∧ Below U.heap.size U w') := Lib.hid (fun hv U hU => by
        have h := Valid_any A (n - 1) c q g U ((HIN.out.later hU).less (Nat.sub_le _ _))
        rw [entL_less q (Nat.sub_le n 1), Ix.valid_less hv] at h
        exact h)
      have HW1 : Hid (¬ n = 0 → wrap64 ((n : Int) - 1) = ((n - 1 : Nat) : Int)) := Lib.hid (fun h => by rw [IntWalk.wrap64_in _ ⟨by omega, by unfold maxLen at hn; omega⟩]; omega)
      rw [← e1] at hlast hinj
      rw [← e2] at hinj
      clear hin hjn e1 e2 HFW HFV
      generalize Ix.put g (entL q n) = pt at *
      generalize Ix.put g (entL p m) = pu at *
      generalize entL q n = L at *
      generalize entL p m = M at *
      obtain ⟨t, er⟩ := pt
      obtain ⟨u, es⟩ := pu
      simp only at HP HQ hinj hlast
      go_wp2_with fail
      refine HP.out.mono ?_; rintro e w4 ⟨rfl, hb4⟩
      have HB4 := Lib.hid (below_step HB3.out hb4)
      have HC := Lib.hid (HQ.out w4 hb4); have HB24 := Lib.hid hb4
      clear hb4 HP HQ HB3
      go_wp2_with fail
      refine HC.out.mono ?_; rintro e w5 ⟨rfl, hb5⟩
      have HB5 := Lib.hid (below_step HB4.out hb5); have HB25 := Lib.hid (below_step HB24.out hb5)
      clear hb5 HC HB4 HB24
      by_cases h1 : er = 0
      · have HLAST := Lib.hid (hlast.out h1)
        by_cases h2 : es = 0
        · have hi := hinj h1 h2
          have HSC := Lib.hid (HSM.out w5 HB25.out)
          subst h1; subst h2
          clear hinj hlast HSM
          by_cases htu : t = u
          · have hLM := hi.1 htu
            have b0 : (t.toList == u.toList) = true := tell_bytes.2 htu
            clear hi htu
            go_wp2_with fail
            refine HSC.out.mono ?_; rintro e w6 ⟨r, rfl, hr, hb6⟩
            obtain rfl : r = true := hr.2 hLM
            have HB5' := Lib.hid (below_step HB5.out hb6); have HB25' := Lib.hid (below_step HB25.out hb6)
            clear hr hb6 HSC HB5 HB25 hLM
            by_cases hn0 : n = 0
            · have d7 : ((n : Int) == 0) = true := by rw [hn0]; rfl
              clear hn0
              go_wp2_with fail
              go_ret
              exact ⟨rfl, HB5'.out⟩
            · have d7 : ((n : Int) == 0) = false := beq_eq_false_iff_ne.2 (by omega)
              have s1 : wrap64 ((n : Int) - 1) = ((n - 1 : Nat) : Int) := HW1.out hn0
              have s0 : (0 : Int) ≤ ((n - 1 : Nat) : Int) := Int.natCast_nonneg _
              have HC7 := Lib.hid (HLAST.out w6 HB25'.out)
              have s2 : ((n - 1 : Nat) : Int) ≤ (c : Int) := Int.ofNat_le.2 (Nat.le_trans (Nat.sub_le _ _) hnc)
              clear hn0 HLAST
              generalize n - 1 = n1 at *
              go_wp2_with fail
              try rw [Int.toNat_natCast]
              refine HC7.out.mono ?_; rintro e w7 ⟨rfl, hb7⟩
              have HB7 := Lib.hid (below_step HB5'.out hb7)
              clear hb7 HC7
              go_wp2_with fail
              go_ret
              exact ⟨rfl, HB7.out⟩
          · have b0 : (t.toList == u.toList) = false := by
              rcases hq : (t.toList == u.toList) with _ | _
              · rfl
              · exact absurd (tell_bytes.1 hq) htu
            go_wp2_with fail
            refine HSC.out.mono ?_; rintro e w6 ⟨r, rfl, hr, hb6⟩
            obtain rfl : r = false := by
              cases r with
              | false => rfl
              | true => exact absurd (hi.2 (hr.1 rfl)) htu
            have HB5' := Lib.hid (below_step HB5.out hb6); have HB25' := Lib.hid (below_step HB25.out hb6)
            clear hr hb6 HSC HB5 HB25 hi htu
            by_cases hn0 : n = 0
            · have d7 : ((n : Int) == 0) = true := by rw [hn0]; rfl
              clear hn0
              go_wp2_with fail
              go_ret
              exact ⟨rfl, HB5'.out⟩
            · have d7 : ((n : Int) == 0) = false := beq_eq_false_iff_ne.2 (by omega)
              have s1 : wrap64 ((n : Int) - 1) = ((n - 1 : Nat) : Int) := HW1.out hn0
              have s0 : (0 : Int) ≤ ((n - 1 : Nat) : Int) := Int.natCast_nonneg _
              have HC7 := Lib.hid (HLAST.out w6 HB25'.out)
              have s2 : ((n - 1 : Nat) : Int) ≤ (c : Int) := Int.ofNat_le.2 (Nat.le_trans (Nat.sub_le _ _) hnc)
              clear hn0 HLAST
              generalize n - 1 = n1 at *
              go_wp2_with fail
              try rw [Int.toNat_natCast]
              refine HC7.out.mono ?_; rintro e w7 ⟨rfl, hb7⟩
              have HB7 := Lib.hid (below_step HB5'.out hb7)
              clear hb7 HC7
              go_wp2_with fail
              go_ret
              exact ⟨rfl, HB7.out⟩
        · have d4 : (es != 0) = true := bne_iff_ne.2 h2
          subst h1
          clear hinj hlast HSM h2
          by_cases hn0 : n = 0
          · have d7 : ((n : Int) == 0) = true := by rw [hn0]; rfl
            clear hn0
            go_wp2_with fail
            go_ret
            exact ⟨rfl, HB5.out⟩
          · have d7 : ((n : Int) == 0) = false := beq_eq_false_iff_ne.2 (by omega)
            have s1 : wrap64 ((n : Int) - 1) = ((n - 1 : Nat) : Int) := HW1.out hn0
            have s0 : (0 : Int) ≤ ((n - 1 : Nat) : Int) := Int.natCast_nonneg _
            have HC7 := Lib.hid (HLAST.out w5 HB25.out)
            have s2 : ((n - 1 : Nat) : Int) ≤ (c : Int) := Int.ofNat_le.2 (Nat.le_trans (Nat.sub_le _ _) hnc)
            clear hn0 HLAST
            generalize n - 1 = n1 at *
            go_wp2_with fail
            try rw [Int.toNat_natCast]
            refine HC7.out.mono ?_; rintro e w7 ⟨rfl, hb7⟩
            have HB7 := Lib.hid (below_step HB5.out hb7)
            clear hb7 HC7
            go_wp2_with fail
            go_ret
            exact ⟨rfl, HB7.out⟩
      · have d4 : (er != 0) = true := bne_iff_ne.2 h1
        clear hinj hlast HSM h1
        go_wp2_with fail
        go_ret
        exact ⟨rfl, HB5.out⟩
end Go.Proofs.YtliobahnekohmaaGreat
