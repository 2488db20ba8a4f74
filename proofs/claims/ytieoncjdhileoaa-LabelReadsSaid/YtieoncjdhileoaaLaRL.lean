/-
  LabelReads: the walk of the law.
-/
import Derived.Test.YtieoncjdhileoaaLaRE
import Derived.Test.YtieoncjdhileoaaLaS
namespace Go.Proofs.Ytieoncjdhileoaa
open Go.RowKit
theorem Labs.rows {o : Option (List Lab)} {w w' : World} {e : Ending} (h : Labs o w e w') : ∃ A c, e = .returned (.tuple #[.slice A (o.getD []).length c, .bool o.isSome]) ∧ LabRow w' A (o.getD []).length (La.at_ (o.getD [])) ∧ Below w.heap.size w w' := by
  rcases h with ⟨L, A, c, rfl, rfl, _, _, hrow, hb⟩ | ⟨rfl, rfl, hb⟩
  · exact ⟨A, c, rfl, hrow, hb⟩
  · exact ⟨none, 0, rfl, fun hn => absurd hn (Nat.lt_irrefl 0), hb⟩
theorem La.of_six (s : ByteArray) : ((La.of s).getD []).length ≤ 6 := by
  cases h : La.of s with
  | none => exact Nat.zero_le _
  | some L => exact (La.right_sizes L (La.of_key h).1).1
theorem La.read_six (s : ByteArray) : ((La.read s).getD []).length ≤ 6 := by
  cases h : La.read s with
  | none => exact Nat.zero_le _
  | some L => exact (La.right_sizes L (La.read_shows h).1).1

set_option maxRecDepth 100000 in
set_option maxHeartbeats 2000000 in
theorem labelReads_walk (w : World) (gm : Int) (hgm : w.cell? ⟨0, 0, none⟩ = some (.int .i64 gm)) (s : ByteArray) (_hs : s.size ≤ maxLen) (t : ByteArray) (_ht : t.size ≤ maxLen) :
    Calls Try.prog 4 #[.string s, .string t] w fun e w' => e = .returned (.bool true) ∧ Below w.heap.size w w' := by
  have hm2 : ∀ W, Below w.heap.size w W → W.cell? ⟨0, 0, none⟩ = some (.int .i64 gm) := fun W hW => (hW.cell (block_lt_of_cell hgm)).trans hgm
  have HM := Lib.hid hm2; clear hm2
  have B0 := Lib.hid (Below.refl w.heap.size w)
  by_cases hlen : 300 < s.size
  · have d1 : decide ((300 : Int) < (s.size : Int)) = true := by simp; omega
    go_enter Try.func4, Try.ntmps4
    go_wp2_with fail
    refine (works_any _ gm hgm).mono ?_; rintro e w1 ⟨rfl, hb1⟩
    have B1 := Lib.hid (below_step B0.out hb1); clear hb1 B0
    go_wp2_with fail
    go_ret
    exact ⟨rfl, B1.out⟩
  have d1 : decide ((300 : Int) < (s.size : Int)) = false := by simp; omega
  by_cases hlet : 300 < t.size
  · have d2 : decide ((300 : Int) < (t.size : Int)) = true := by simp; omega
    go_enter Try.func4, Try.ntmps4
    go_wp2_with fail
    refine (works_any _ gm hgm).mono ?_; rintro e w1 ⟨rfl, hb1⟩
    have B1 := Lib.hid (below_step B0.out hb1); clear hb1 B0
    go_wp2_with fail
    go_ret
    exact ⟨rfl, B1.out⟩
  have d2 : decide ((300 : Int) < (t.size : Int)) = false := by simp; omega
  have K1 := Lib.hid (fun W => Of_any s (by unfold maxLen; omega) W)
  have K2 := Lib.hid (fun W => rOf_any s (by omega) W)
  have K3 := Lib.hid (fun W hW => Read_any t (by omega) W gm (HM.out W hW))
  have K4 := Lib.hid (fun W => rRead_any t (by omega) W)
  have hp6 := La.of_six s; have hq6 := La.read_six t
  generalize La.of s = P at *
  generalize La.read t = Q at *
  have hbp : (P.isSome == P.isSome) = true := by simp
  have hbq : (Q.isSome == Q.isSome) = true := by simp
  have hsm : ∀ L : List Lab, (decide (L.length = L.length) && La.same (La.at_ L) (La.at_ L) L.length) = true := fun L => (La.same_iff _ _ _ _).2 rfl
  have HSM := Lib.hid hsm; clear hsm hlen hlet
  have K5 := Lib.hid (fun A B c d W (hA : LabRow W A (P.getD []).length (La.at_ (P.getD []))) (hB : LabRow W B (P.getD []).length (La.at_ (P.getD []))) => by
    have := rSame_any A B _ _ c d (by unfold maxLen; omega) _ _ W hA hB
    rw [HSM.out] at this; exact this)
  have K6 := Lib.hid (fun A B c d W (hA : LabRow W A (Q.getD []).length (La.at_ (Q.getD []))) (hB : LabRow W B (Q.getD []).length (La.at_ (Q.getD []))) => by
    have := rSame_any A B _ _ c d (by unfold maxLen; omega) _ _ W hA hB
    rw [HSM.out] at this; exact this)
  clear HSM hp6 hq6
  go_enter Try.func4, Try.ntmps4
  go_wp2_with fail
  refine (works_any _ gm hgm).mono ?_; rintro e w1 ⟨rfl, hb1⟩
  have B1 := Lib.hid (below_step B0.out hb1); clear hb1 B0
  go_wp2_with fail
  refine (K1.out _).mono ?_
  intro e w2 h2
  obtain ⟨A1, c1, rfl, hr, hb2⟩ := h2.rows
  have B2 := Lib.hid (below_step B1.out hb2); have Ra2 := Lib.hid hr; clear hb2 B1 h2 hr
  go_wp2_with fail
  refine (K2.out _).mono ?_
  intro e w3 h3
  obtain ⟨A2, c2, rfl, hr, hb3⟩ := h3.rows
  have B3 := Lib.hid (below_step B2.out hb3); have Ra3 := Lib.hid (Ra2.out.later hb3); have Rb3 := Lib.hid hr; clear hb3 B2 h3 hr Ra2
  go_wp2_with fail
  refine (K3.out _ B3.out).mono ?_
  intro e w4 h4
  obtain ⟨A3, c3, rfl, hr, hb4⟩ := h4.rows
  have B4 := Lib.hid (below_step B3.out hb4); have Ra4 := Lib.hid (Ra3.out.later hb4); have Rb4 := Lib.hid (Rb3.out.later hb4); have Rc4 := Lib.hid hr; clear hb4 B3 h4 hr Ra3 Rb3
  go_wp2_with fail
  refine (K4.out _).mono ?_
  intro e w5 h5
  obtain ⟨A4, c4, rfl, hr, hb5⟩ := h5.rows
  have B5 := Lib.hid (below_step B4.out hb5); have Ra5 := Lib.hid (Ra4.out.later hb5); have Rb5 := Lib.hid (Rb4.out.later hb5); have Rc5 := Lib.hid (Rc4.out.later hb5); have Rd5 := Lib.hid hr; clear hb5 B4 h5 hr Ra4 Rb4 Rc4
  go_wp2_with fail
  refine (K5.out _ _ _ _ _ Ra5.out Rb5.out).mono ?_; rintro e w6 ⟨rfl, hb6⟩
  have B6 := Lib.hid (below_step B5.out hb6); have Rc6 := Lib.hid (Rc5.out.later hb6); have Rd6 := Lib.hid (Rd5.out.later hb6); clear hb6 B5 Ra5 Rb5 Rc5 Rd5
  go_wp2_with fail
  refine (K6.out _ _ _ _ _ Rc6.out Rd6.out).mono ?_; rintro e w7 ⟨rfl, hb7⟩
  have B7 := Lib.hid (below_step B6.out hb7); clear hb7 B6 Rc6 Rd6
  go_wp2_with fail
  go_ret
  exact ⟨rfl, B7.out⟩
end Go.Proofs.Ytieoncjdhileoaa
