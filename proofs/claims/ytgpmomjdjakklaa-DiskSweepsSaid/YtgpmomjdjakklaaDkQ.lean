/-
  DiskRepairs, DiskFull: the walks.
-/
import Derived.Test.YtgpmomjdjakklaaDkP
namespace Go.Proofs.Ytgpmomjdjakklaa
open Go.RowKit Go.Maps
namespace Sf
theorem put0_x (n b : ByteArray) : putG (fun _ => none) n b n = some b := if_pos rfl
theorem put0_o {n b s : ByteArray} (h : s ≠ n) : putG (fun _ => none) n b s = none := by
  unfold putG
  rw [if_neg h]
  split <;> rfl
theorem setG_x (g : ByteArray → Option ByteArray) (n b : ByteArray) : setG g n b n = some b := if_pos rfl
end Sf
theorem tmp_neS (n : ByteArray) : tmp n ≠ n := (Sf.tmp_ne n).symm
/-- the first file is saved -/
theorem first_save {W : World} {base fb : Nat} {room : Int} {wr : World} (h : Runs W base fb 0 0 (Sf.St.new room) wr) (n : ByteArray) (hn0 : 0 < n.size) (hn : n.size ≤ 36) (b : ByteArray) (hb : b.size ≤ 300) (hr : (b.size : Int) ≤ max room 0) :
    Calls Try.prog 10 #[.pointer (some ⟨fb, 0, none⟩), .string n, .string b] wr fun e w' => ∃ S, e = .returned (.int .i64 0) ∧ Runs W base fb 300 7 S w' ∧ Moves wr w' ∧ Sf.Has S (Sf.putG (fun _ => none) n b) ∧ S.fuse = -1 ∧ S.room = max room 0 ∧ S.steps = 5 ∧ Sf.StOk 300 7 S := by
  refine (Save_any h (by decide) (by decide) n (by omega) b hb).mono ?_
  rintro e w' ⟨y, hy, rfl, hr2, hm⟩
  have hnew := Sf.Has.new room
  have hz := Sf.total_zero h.ok h.keys hnew.at_
  have hz2 := Sf.size_zero h.ok.nice h.keys hnew.at_
  obtain ⟨s1, s2, s3, s4, s5⟩ := Sf.has_save h.ok h.keys hnew rfl (n := n) (b := b) (Sf.name_of (by omega) hn0) hn hy (by rw [hz2]; decide) (by rw [hz]; show ((0 : Nat) : Int) + (b.size : Int) ≤ max room 0; omega)
  have hok := Sf.StOk.save (h.ok.mono (show 0 ≤ 300 by decide) (Nat.le_refl 0)) n b hb hy
  exact ⟨_, by rw [s1], hr2, hm, s2, s3, s4, s5, hok⟩
set_option maxRecDepth 100000 in
set_option maxHeartbeats 4000000 in
theorem diskRepairs_walk0 (W : World) (b : ByteArray) (_hb : b.size ≤ maxLen) (n : Int) {A : Option Addr} {c : Nat} {kp : Sf.Keep} (hk : KeepIn W A c kp) :
    Calls Try.prog 7 #[.string b, .int .i64 n, .slice A kp.n c] W fun e w' => e = .returned (.bool true) ∧ Below W.heap.size W w' := by
  have HK := Lib.hid hk
  clear hk
  have hxs : (⟨#[120]⟩ : ByteArray).size ≤ maxLen := by decide
  go_enter Try.func7, Try.ntmps7
  go_wp2_with fail
  refine (works_any W).mono ?_; rintro e w1 ⟨rfl, hb1⟩
  have HB1 := Lib.hid hb1; clear hb1
  go_wp2_with fail
  refine (runs_new HB1.out 1000 (by decide)).mono ?_; rintro e w2 ⟨fb, rfl, hr, hb2⟩
  have R2 := Lib.hid hr; clear hr hb2
  by_cases hzb : 300 < b.size
  · have d1 : decide ((300 : Int) < (b.size : Int)) = true := decide_eq_true (by omega)
    have d2 : decide (300 < b.size) = true := decide_eq_true hzb
    go_wp2_with fail
    go_ret
    exact ⟨rfl, R2.out.bel⟩
  have d1 : decide ((300 : Int) < (b.size : Int)) = false := decide_eq_false (by omega)
  have d2 : decide (300 < b.size) = false := decide_eq_false hzb
  by_cases hzk : 20 < kp.n
  · have d3 : decide ((20 : Int) < (kp.n : Int)) = true := decide_eq_true (by omega)
    have d4 : decide (20 < kp.n) = true := decide_eq_true hzk
    go_wp2_with fail
    go_ret
    exact ⟨rfl, R2.out.bel⟩
  have d3 : decide ((20 : Int) < (kp.n : Int)) = false := decide_eq_false (by omega)
  have d4 : decide (20 < kp.n) = false := decide_eq_false hzk
  go_wp2_with fail
  clear d1 d2 d3 d4
  refine (first_save R2.out ⟨#[120]⟩ (by decide) (by decide) b (by omega) (by show (b.size : Int) ≤ max 1000 0; omega)).mono ?_; rintro e w3 ⟨S, rfl, hr, -, hh, hf, -, -, -⟩
  have R3 := Lib.hid hr; have H3 := Lib.hid (And.intro hh hf)
  obtain ⟨p1, p2⟩ := Sf.has_repair hh hr.ok.nice hf (Sf.put0_x ⟨#[120]⟩ b) n
  have HP1 := Lib.hid p1; have HP2 := Lib.hid p2
  clear hr hh hf p1 p2 R2 HB1
  go_wp2_with fail
  refine (Repair_any R3.out (by decide) (by decide) ⟨#[120]⟩ hxs n).mono ?_; rintro e w4 ⟨rfl, hr, -⟩
  have R4 := Lib.hid hr
  clear hr R3
  by_cases hout : n < 0 ∨ (b.size : Int) < n
  · rw [HP1.out hout] at R4 ⊢
    have b0 : (b.toList == b.toList) = true := by simp
    go_wp2_with fail
    refine (R4.out.crash (by decide) (by decide) (R4.out.keep HK.out)).mono ?_; rintro e w5 ⟨rfl, hr, -, -⟩
    have R5 := Lib.hid hr
    have H5 := Lib.hid (H3.out.1.crash kp)
    generalize (S, (1 : Int)).1.crash kp = S5 at *
    clear hr R4 H3 HP1 HP2
    go_wp2_with fail
    refine (R5.out.read ⟨#[120]⟩ hxs).mono ?_; rintro e w6 ⟨rfl, hb6⟩
    have R6 := Lib.hid (R5.out.far hb6); clear hb6 R5
    rw [show S5.read ⟨#[120]⟩ = (b, 0) from Sf.read_some H5.out.dead ((H5.out.at_ _).trans (Sf.put0_x _ b))]
    by_cases hn0 : n < 0
    · have e1 : decide (n < 0) = true := decide_eq_true hn0
      go_wp2_with fail
      go_ret
      exact ⟨rfl, R6.out.bel⟩
    · have e1 : decide (n < 0) = false := decide_eq_false hn0
      have e2 : decide ((b.size : Int) < n) = true := decide_eq_true (by omega)
      go_wp2_with fail
      go_ret
      exact ⟨rfl, R6.out.bel⟩
  · obtain ⟨m, rfl⟩ : ∃ m : Nat, n = (m : Int) := ⟨n.toNat, by omega⟩
    have hmb : m ≤ b.size := by omega
    obtain ⟨q1, q2, q3⟩ := HP2.out (by omega) (by omega)
    rw [q1]
    have H4 := Lib.hid q2
    generalize (S.repair ⟨#[120]⟩ (m : Int)).1 = S4 at *
    clear q1 q2 q3 HP1 HP2 H3
    go_wp2_with fail
    refine (R4.out.crash (by decide) (by decide) (R4.out.keep HK.out)).mono ?_; rintro e w5 ⟨rfl, hr, -, -⟩
    have R5 := Lib.hid hr
    have H5 := Lib.hid (H4.out.crash kp)
    generalize S4.crash kp = S5 at *
    clear hr R4 H4
    go_wp2_with fail
    refine (R5.out.read ⟨#[120]⟩ hxs).mono ?_; rintro e w6 ⟨rfl, hb6⟩
    have R6 := Lib.hid (R5.out.far hb6); clear hb6 R5
    rw [show S5.read ⟨#[120]⟩ = (b.extract 0 m, 0) from Sf.read_some H5.out.dead ((H5.out.at_ _).trans (Sf.setG_x _ _ _))]
    have e1 : decide ((m : Int) < 0) = false := decide_eq_false (by omega)
    have e2 : decide ((b.size : Int) < (m : Int)) = false := decide_eq_false (by omega)
    have i0 : (0 : Int) ≤ (m : Int) := by omega
    have i1 : (m : Int) ≤ (b.size : Int) := by omega
    have b0 : ((b.extract 0 m).toList == (b.extract 0 m).toList) = true := by simp
    go_wp2_with fail
    go_ret
    exact ⟨rfl, R6.out.bel⟩
set_option maxRecDepth 100000 in
theorem diskRepairs_walk {H : Type} {enc : TypeId × Value → H} {r0 : Reach} {b0 : Nat} {v0 : Value} {d0 : DataW H} {p0 : List MemPlace} (w : World) (b : ByteArray) (hb : b.size ≤ maxLen) (n : Int) (_hn : (Lit.int .i64 n).wf = true)
    (o0 : Value.okWide Try.prog w r0 b0 23 v0) (h0 : DataW.Trod enc Try.prog w 0 (fun _ => true) true 23 v0 d0 p0) :
    Calls Try.prog 7 #[.string b, .int .i64 n, v0] w fun e w' => e = .returned (.bool true) ∧ Below w.heap.size w w' := by
  obtain ⟨A, c, k, rfl, hk⟩ := open_keep o0 h0
  exact diskRepairs_walk0 w b hb n hk
set_option maxRecDepth 100000 in
set_option maxHeartbeats 4000000 in
theorem diskFull_walk (W : World) (n : ByteArray) (_hn : n.size ≤ maxLen) (old : ByteArray) (hold : old.size ≤ maxLen) (b : ByteArray) (_hb : b.size ≤ maxLen) (room : Int) (hroom : (Lit.int .i64 room).wf = true) :
    Calls Try.prog 4 #[.string n, .string old, .string b, .int .i64 room] W fun e w' => e = .returned (.bool true) ∧ Below W.heap.size W w' := by
  have hrm := (i64_bd hroom).2
  obtain ⟨v, hv, hvb, hv2, hv3⟩ : ∃ v, IntKind.i64.wrap ((old.size : Int) + 1) = v ∧ wrap64 ((old.size : Int) + 1) = v ∧ v ≤ 9223372036854775807 ∧ (old.size ≤ 300 → v = (old.size : Int) + 1) := by
    unfold maxLen at hold
    by_cases h : old.size < 9223372036854775807
    · exact ⟨(old.size : Int) + 1, IntWalk.i64_in _ (by omega), IntWalk.wrap64_in _ (by omega), by omega, fun _ => rfl⟩
    · have e : (old.size : Int) + 1 = 9223372036854775808 := by omega
      rw [e]
      exact ⟨-9223372036854775808, by decide, by unfold wrap64; decide, by decide, fun h2 => by omega⟩
  have HV := Lib.hid (And.intro hv2 hv3)
  have HRM := Lib.hid hrm
  clear hv2 hv3 hrm hroom hold
  go_enter Try.func4, Try.ntmps4
  go_wp2_with fail
  refine (works_any W).mono ?_; rintro e w1 ⟨rfl, hb1⟩
  have HB1 := Lib.hid hb1; clear hb1
  go_wp2_with fail
  refine (runs_new HB1.out v HV.out.1).mono ?_; rintro e w2 ⟨fb, rfl, hr, hb2⟩
  have R2 := Lib.hid hr; clear hr hb2 hv hvb
  by_cases hn0 : n.size = 0
  · have d0 : n.toList.isEmpty = true := by rw [isEmpty_eq]; exact decide_eq_true hn0
    go_wp2_with fail
    go_ret
    exact ⟨rfl, R2.out.bel⟩
  have d0 : n.toList.isEmpty = false := by rw [isEmpty_eq]; exact decide_eq_false hn0
  by_cases hzn : 36 < n.size
  · have d1 : decide ((36 : Int) < (n.size : Int)) = true := decide_eq_true (by omega)
    have d2 : decide (36 < n.size) = true := decide_eq_true hzn
    go_wp2_with fail
    go_ret
    exact ⟨rfl, R2.out.bel⟩
  have d1 : decide ((36 : Int) < (n.size : Int)) = false := decide_eq_false (by omega)
  have d2 : decide (36 < n.size) = false := decide_eq_false hzn
  by_cases hzo : 300 < old.size
  · have d3 : decide ((300 : Int) < (old.size : Int)) = true := decide_eq_true (by omega)
    have d4 : decide (300 < old.size) = true := decide_eq_true hzo
    go_wp2_with fail
    go_ret
    exact ⟨rfl, R2.out.bel⟩
  have d3 : decide ((300 : Int) < (old.size : Int)) = false := decide_eq_false (by omega)
  have d4 : decide (300 < old.size) = false := decide_eq_false hzo
  by_cases hzb : 300 < b.size
  · have d5 : decide ((300 : Int) < (b.size : Int)) = true := decide_eq_true (by omega)
    have d6 : decide (300 < b.size) = true := decide_eq_true hzb
    go_wp2_with fail
    go_ret
    exact ⟨rfl, R2.out.bel⟩
  have d5 : decide ((300 : Int) < (b.size : Int)) = false := decide_eq_false (by omega)
  have d6 : decide (300 < b.size) = false := decide_eq_false hzb
  go_wp2_with fail
  clear d0 d1 d2 d3 d4 d5 d6
  obtain rfl : v = (old.size : Int) + 1 := HV.out.2 (by omega)
  refine (first_save R2.out n (by omega) (by omega) old (by omega) (by omega)).mono ?_; rintro e w3 ⟨S, rfl, hr, -, hh, hf, -, hst, -⟩
  have R3 := Lib.hid hr; have H3 := Lib.hid (And.intro hh (And.intro hf hst))
  clear hr hh hf hst R2 HB1
  go_wp2_with fail
  refine (R3.out.room room HRM.out).mono ?_; rintro e w4 ⟨rfl, hr, -⟩
  have R4 := Lib.hid hr
  have H4 : Hid (Sf.Has { S with room := max room 0 } (Sf.putG (fun _ => none) n old) ∧ ({ S with room := max room 0 } : Sf.St).fuse = -1 ∧ ({ S with room := max room 0 } : Sf.St).steps = 5 ∧ ({ S with room := max room 0 } : Sf.St).room = max room 0) := Lib.hid ⟨⟨H3.out.1.dead, H3.out.1.chg, H3.out.1.syn, H3.out.1.at_, H3.out.1.wh⟩, H3.out.2.1, H3.out.2.2, rfl⟩
  generalize ({ S with room := max room 0 } : Sf.St) = S4 at *
  clear hr R3 H3
  have HTX : Hid (Sf.putG (fun _ => none) n old (tmp n) = none) := Lib.hid (Sf.put0_o (tmp_neS n))
  have hcx := (H4.out.1.at_ n).trans (Sf.put0_x n old)
  have hco : ∀ s, s ≠ n → Sf.cont S4 s = none := fun s hs => (H4.out.1.at_ s).trans (Sf.put0_o hs)
  have HTOT := Lib.hid (Sf.total_one R4.out.ok.nice R4.out.keys hcx hco)
  have HSZ := Lib.hid (Sf.size_one R4.out.ok.nice R4.out.keys n hco)
  clear hcx hco
  go_wp2_with fail
  refine (Steps_any R4.out.fs).mono ?_; rintro e w5 ⟨rfl, rfl⟩
  rw [H4.out.2.2.1]
  go_wp2_with fail
  refine (Cost_any R4.out n (by omega)).mono ?_; rintro e w6 ⟨rfl, hb6⟩
  have R6 := Lib.hid (R4.out.far hb6)
  rw [show (if (Sf.look S4.names (tmp n)).isSome = true then (6 : Int) else 5) = 5 from if_neg (by rw [← Sf.cont_is, H4.out.1.at_, HTX.out]; simp)]
  clear hb6 R4
  go_wp2_with fail
  refine (Save_any R6.out (by decide) (by decide) n (by omega) b (by omega)).mono ?_; rintro e w7 ⟨y, hy, rfl, hr, -⟩
  have R7 := Lib.hid hr
  have hw : IntKind.i64.wrap ((old.size : Int) + (b.size : Int)) = (old.size : Int) + (b.size : Int) := IntWalk.i64_in _ (by omega)
  have hw2 : wrap64 ((old.size : Int) + (b.size : Int)) = (old.size : Int) + (b.size : Int) := IntWalk.wrap64_in _ (by omega)
  by_cases hfit : (old.size : Int) + (b.size : Int) ≤ max room 0
  · obtain ⟨s1, s2, s3, s4, s5⟩ := Sf.has_save R6.out.ok R6.out.keys H4.out.1 H4.out.2.1 (n := n) (b := b) (Sf.name_of (by omega) (by omega)) (by omega) hy (Nat.lt_of_le_of_lt HSZ.out (by decide)) (by rw [HTOT.out, H4.out.2.2.2]; exact hfit)
    rw [s1]
    rw [H4.out.2.2.1, HTX.out] at s5
    have H7 : Hid (Sf.Has (S4.save n b y).1 (Sf.putG (Sf.putG (fun _ => none) n old) n b) ∧ (S4.save n b y).1.steps = 10) := Lib.hid ⟨s2, s5⟩
    generalize (S4.save n b y).1 = S7 at *
    clear hr hy s1 s2 s3 s4 s5 R6
    go_wp2_with fail
    refine (R7.out.read n (by unfold maxLen; omega)).mono ?_; rintro e w8 ⟨rfl, hb8⟩
    have R8 := Lib.hid (R7.out.far hb8)
    rw [show S7.read n = (b, 0) from Sf.read_some H7.out.1.dead ((H7.out.1.at_ n).trans (if_pos rfl))]
    have b0 : (b.toList == b.toList) = true := by simp
    have e1 : decide ((old.size : Int) + (b.size : Int) ≤ max room 0) = true := decide_eq_true hfit
    clear hb8 R7 hfit
    go_wp2_with fail
    refine (Steps_any R8.out.fs).mono ?_; rintro e w9 ⟨rfl, rfl⟩
    rw [H7.out.2]
    go_wp2_with fail
    go_ret
    exact ⟨rfl, R8.out.bel⟩
  · obtain ⟨S1, h1⟩ := Sf.sv1_at R6.out.ok R6.out.keys H4.out.1.dead (tmp n) (.inr (by rw [H4.out.2.1]; decide))
    have hfr := Sf.fresh_of R6.out.ok h1 hy
    obtain ⟨s1, s2, s3⟩ := Sf.save_full R6.out.ok.nice R6.out.keys H4.out.1 H4.out.2.1 (n := n) (b := b) HTX.out (by omega) hfr (Nat.lt_of_le_of_lt HSZ.out (by decide)) (by rw [HTOT.out, H4.out.2.2.2]; omega)
    rw [s1]
    have H7 : Hid ((S4.save n b y).1.dead = false ∧ ∀ s, Sf.cont (S4.save n b y).1 s = Sf.putG (fun _ => none) n old s) := Lib.hid ⟨s2, s3⟩
    generalize (S4.save n b y).1 = S7 at *
    clear hr hy s1 s2 s3 R6 h1 hfr
    go_wp2_with fail
    refine (R7.out.read n (by unfold maxLen; omega)).mono ?_; rintro e w8 ⟨rfl, hb8⟩
    have R8 := Lib.hid (R7.out.far hb8)
    rw [show S7.read n = (old, 0) from Sf.read_some H7.out.1 ((H7.out.2 n).trans (Sf.put0_x n old))]
    have b0 : (old.toList == old.toList) = true := by simp
    have e1 : decide ((old.size : Int) + (b.size : Int) ≤ max room 0) = false := decide_eq_false (by omega)
    clear hb8 R7 hfit
    go_wp2_with fail
    refine (R8.out.list).mono ?_; rintro e w9 ⟨A, c, rfl, -, hb9⟩
    have R9 := Lib.hid (R8.out.far hb9)
    rw [show (Sf.list S7.names).length = 1 by
      rw [Sf.list_one R8.out.ok.nice R8.out.keys (n := n) (fun s => by
        rw [H7.out.2]
        by_cases e : s = n
        · rw [e, Sf.put0_x]; simp
        · rw [Sf.put0_o e]; simp [e])]
      rfl]
    clear hb9 R8
    go_wp2_with fail
    go_ret
    exact ⟨rfl, R9.out.bel⟩
end Go.Proofs.Ytgpmomjdjakklaa
