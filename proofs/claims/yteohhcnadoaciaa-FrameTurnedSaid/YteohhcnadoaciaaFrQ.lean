/-
  FrameTurned: the walk of the law.
-/
import Derived.Test.YteohhcnadoaciaaFrP
import Derived.Test.YteohhcnadoaciaaOwnM
namespace Go.Proofs.Yteohhcnadoaciaa
open Go.RowKit

theorem ownsM_set {W : World} {base g cap i : Nat} {l : List UInt8} (v : UInt8) (h : OwnsM W base (.slice (some ⟨g, 0, none⟩) l.length cap) l) (hi : i < l.length) : OwnsM (W.setCell ⟨g, i, none⟩ (.int .u8 (v.toNat : Int))) base (.slice (some ⟨g, 0, none⟩) l.length cap) (l.set i v) := by
  obtain ⟨g2, cap2, he, h1, h2, h3, h4, h5, h6⟩ := h
  simp only [Value.slice.injEq, Option.some.injEq, Addr.mk.injEq, and_true, true_and] at he
  obtain ⟨rfl, rfl⟩ := he
  refine ⟨g, cap, by rw [List.length_set], h1, by simpa [World.setCell] using h2, by rw [List.length_set]; exact h3, h4, fun j hj => ⟨?_, ?_⟩, fun j hj => ?_⟩
  · obtain ⟨v', hy'⟩ := cell?_setCell_some (w := W) (p := ⟨g, i, none⟩) (x := .int .u8 (v.toNat : Int)) (q := ⟨g, j, none⟩) (v := ((W.cell? ⟨g, j, none⟩).get (h5 j hj).1)) (by simp)
    rw [hy']; rfl
  · rw [World.frozen?_setCell]; exact (h5 j hj).2
  · rw [List.length_set] at hj
    by_cases e : i = j
    · subst e
      rw [World.cell?_setCell_same _ _ _ (h6 i hi)]
      simp
    · rw [World.cell?_setCell_other _ _ _ _ (fun e2 => e (by cases e2; rfl)), h6 j hj, List.getElem_set_ne e]

set_option maxRecDepth 100000 in
set_option maxHeartbeats 1000000 in
theorem frameTurned_walk (w : World) (b : ByteArray) (hb : b.size ≤ maxLen) (hbz : b.size ≤ 140737488351232) (at' : Int) (ha : (Lit.int .i64 at').wf = true) (by' : Int) (hy : (Lit.int .u8 by').wf = true) (r : ByteArray) (hr : r.size ≤ maxLen) (hrz : r.size ≤ 140737488351232) :
    Calls Try.prog 6 #[.string b, .int .i64 at', .int .u8 by', .string r] w fun e w' => e = .returned (.bool true) ∧ Below w.heap.size w w' := by
  obtain ⟨y, rfl⟩ := u8_nat by' hy
  have hat := (i64_bd at' ha).out
  have hps := Fr.put_size b
  have hsm := Fr.small_le b.size
  have hsp := Num.small_pos b.size
  obtain ⟨h, hh⟩ : ∃ h, (Num.smallB b.size).size = h := ⟨_, rfl⟩
  have hP := Put_any b (by omega)
  by_cases hl : b.size ≤ 400 ∧ r.size ≤ 400 ∧ (h : Int) ≤ at' ∧ at' < ((Fr.put b).size : Int) ∧ y.toNat ≠ 0
  · obtain ⟨hl1, hl2, hl3, hl4, hl5⟩ := hl
    obtain ⟨i, rfl⟩ : ∃ i : Nat, at' = i := ⟨at'.toNat, by omega⟩
    have d1 : decide ((400 : Int) < (b.size : Int)) = false := by simp; omega
    have d2 : decide ((400 : Int) < (r.size : Int)) = false := by simp; omega
    have hd := Fr.get_turned b r
    have HP := Lib.hid hP
    generalize Fr.put b = p at *
    have e1 : (p.size : Int) - (b.size : Int) - 4 = (h : Int) := by omega
    have d3 : decide ((i : Int) < (h : Int)) = false := by simp; omega
    have d4 : decide (i < p.size) = true := by simp; omega
    have d4b : decide ((p.size : Int) ≤ (i : Int)) = false := by simp; omega
    have d5 : ((y.toNat : Int) == 0) = false := by simp; omega
    have hsum : ¬ 9223372036854775807 < p.size + r.size := by omega
    have HD := Lib.hid hd
    clear hd hP hps ha hy
    go_enter Try.func6, Try.ntmps6
    go_wp2_with fail
    refine (works_any _).mono ?_; rintro e w1 ⟨rfl, hb1⟩; have HB1 := Lib.hid hb1; clear hb1
    go_wp2_with fail
    refine (HP.out _).mono ?_; rintro e w2 ⟨rfl, hb2⟩; have HB2 := Lib.hid (below_step HB1.out hb2); clear hb2
    have hT : (p ++ r).data.toList.length = (p ++ r).size := by simp
    have hTz : (p ++ r).size = p.size + r.size := ByteArray.size_append
    generalize hpr : p ++ r = t at *
    have hcv := run_bytes_of_string (P := Try.prog) w2 9 39 5 t Try.underlying9 Try.underlying39 Try.underlying5
    have hg1 := grownCap_ge w2 t.size 0 5
    have hg2 := grownCap_le_maxLen w2 t.size 0 5 (by unfold maxLen; omega)
    generalize grownCap w2 t.size 0 5 = cap at *
    have hown0 := OwnsM.of_string (w := w2) (base := w2.heap.size) (s := t) (cap := cap) (e := 5) (Nat.le_refl _) hg1 hg2
    have hb3 : Below w.heap.size w (w2.drew.alloc (.cells (bytesRow t cap) 5 ((bytesRow t cap).size, (bytesRow t cap).size + 1))) := (Below.drew HB2.out).alloc HB2.out.size _
    generalize w2.drew.alloc (.cells (bytesRow t cap) 5 ((bytesRow t cap).size, (bytesRow t cap).size + 1)) = w3 at *
    have hgl : w.heap.size ≤ w2.heap.size := HB2.out.size
    generalize w2.heap.size = g at *
    have hil : i < t.data.toList.length := by omega
    have c0 : w3.cell? ⟨g, i, none⟩ = some (.int .u8 ((t.data.toList[i]).toNat : Int)) := by
      obtain ⟨g2, cap2, he, _, _, _, _, _, h6⟩ := hown0
      cases he
      exact h6 i hil
    have f0 : w3.frozen? ⟨g, i, none⟩ = false := by
      obtain ⟨g2, cap2, he, _, _, h3, _, h5, _⟩ := hown0
      cases he
      exact (h5 i (by omega)).2
    rw [← hT] at hown0
    have hset := ownsM_set (t.data.toList[i] ^^^ y) hown0 hil
    have hx : bits BinOp.xor IntKind.u8 ((t.data.toList[i]).toNat : Int) (y.toNat : Int) = ((t.data.toList[i] ^^^ y).toNat : Int) := by
      rw [u8_xor_nat _ _ (UInt8.toNat_lt _) (UInt8.toNat_lt _), UInt8.toNat_xor]
    have hne : t.data.toList[i]? ≠ some (t.data.toList[i] ^^^ y) := by
      rw [List.getElem?_eq_getElem hil]
      intro e
      have e2 := congrArg UInt8.toNat (Option.some.inj e)
      rw [UInt8.toNat_xor] at e2
      have e3 : t.data.toList[i].toNat ^^^ 0 = t.data.toList[i].toNat ^^^ y.toNat := by rw [Nat.xor_zero]; exact e2
      have := Crc.xor_cancel (a := 0) (b := y.toNat) (c := t.data.toList[i].toNat) (by rw [Nat.xor_comm, e3, Nat.xor_comm])
      omega
    have hgt := HD.out ⟨(t.data.toList.set i (t.data.toList[i] ^^^ y)).toArray⟩ i (t.data.toList[i] ^^^ y) 400 (by omega) (by omega) (by omega) (by omega) rfl hne
    have hback := fun (W : World) (h : OwnsM W g (.slice (some ⟨g, 0, none⟩) t.data.toList.length cap) (t.data.toList.set i (t.data.toList[i] ^^^ y))) => h.text (P := Try.prog) (src := 39) (dst := 9) Try.underlying39 Try.underlying5 Try.underlying9
    have hget := Get_any ⟨(t.data.toList.set i (t.data.toList[i] ^^^ y)).toArray⟩ (by show _ ≤ _; unfold maxLen; rw [← Crc.size_list]; simp; omega) 400 (Lib.hid (by omega))
    rw [hgt] at hget
    have HGET := Lib.hid hget; have HSET := Lib.hid hset; have HBACK := Lib.hid hback; have HB3 := Lib.hid hb3
    clear hget hset hback hb3 hgt hne hown0 HD
    rw [hT] at HSET HBACK
    generalize t.data.toList[i] ^^^ y = x at *
    generalize t.data.toList[i] = x0 at *
    have HT := Lib.hid hT; have HTZ := Lib.hid hTz; clear hT hTz
    have i1 : (i : Int) < (t.size : Int) := by have := HTZ.out; omega
    have i2 : i < t.size := by have := HTZ.out; omega
    go_wp2_with fail
    rw [HBACK.out _ HSET.out]
    go_wp2_with fail
    refine (HGET.out _).mono ?_; rintro e w4 ⟨rfl, hb4⟩
    have hb5 := HB3.out.grown (grown_setCell w3 g i (.int .u8 (x.toNat : Int))) HB3.out.size (fun r e => by cases e; exact hgl)
    have HB5 := Lib.hid (hb5.trans (hb4.mono hb5.size)); clear hb4 hb5
    go_wp2_with fail
    go_ret
    exact ⟨rfl, HB5.out⟩
  · have HP := Lib.hid hP
    generalize Fr.put b = p at *
    have e1 : (p.size : Int) - (b.size : Int) - 4 = (h : Int) := by omega
    have hq1 : (p.size : Int) ≤ 140737488351260 := by omega
    have hd : decide ((400 : Int) < (b.size : Int)) = true ∨ (decide ((400 : Int) < (b.size : Int)) = false ∧ decide ((400 : Int) < (r.size : Int)) = true) ∨
        (decide ((400 : Int) < (b.size : Int)) = false ∧ decide ((400 : Int) < (r.size : Int)) = false ∧ decide (at' < (h : Int)) = true) ∨
        (decide ((400 : Int) < (b.size : Int)) = false ∧ decide ((400 : Int) < (r.size : Int)) = false ∧ decide (at' < (h : Int)) = false ∧ decide ((p.size : Int) ≤ at') = true) ∨
        (decide ((400 : Int) < (b.size : Int)) = false ∧ decide ((400 : Int) < (r.size : Int)) = false ∧ decide (at' < (h : Int)) = false ∧ decide ((p.size : Int) ≤ at') = false ∧ ((y.toNat : Int) == 0) = true) := by
      by_cases h1 : b.size ≤ 400
      · right
        by_cases h2 : r.size ≤ 400
        · right
          by_cases h3 : (h : Int) ≤ at'
          · right
            by_cases h4 : at' < (p.size : Int)
            · right
              have h5 : y.toNat = 0 := by
                rcases Nat.eq_zero_or_pos y.toNat with h5 | h5
                · exact h5
                · exact absurd ⟨h1, h2, h3, h4, by omega⟩ hl
              simp only [decide_eq_true_eq, decide_eq_false_iff_not, beq_iff_eq]; omega
            · left; simp only [decide_eq_true_eq, decide_eq_false_iff_not]; omega
          · left; simp only [decide_eq_true_eq, decide_eq_false_iff_not]; omega
        · left; simp only [decide_eq_true_eq, decide_eq_false_iff_not]; omega
      · left; simp only [decide_eq_true_eq]; omega
    have HH := Lib.hid hh; have HPS := Lib.hid hps
    clear hl hP hps ha hy hsm hsp hh
    rcases hd with d1 | ⟨d1, d2⟩ | ⟨d1, d2, d3⟩ | ⟨d1, d2, d3, d4⟩ | ⟨d1, d2, d3, d4, d5⟩
    all_goals
      go_enter Try.func6, Try.ntmps6
      go_wp2_with fail
      refine (works_any _).mono ?_; rintro e w1 ⟨rfl, hb1⟩; have HB1 := Lib.hid hb1; clear hb1
      go_wp2_with fail
      refine (HP.out _).mono ?_; rintro e w2 ⟨rfl, hb2⟩; have HB2 := Lib.hid (below_step HB1.out hb2); clear hb2
      go_wp2_with fail
      go_ret
      exact ⟨rfl, HB2.out⟩
end Go.Proofs.Yteohhcnadoaciaa
