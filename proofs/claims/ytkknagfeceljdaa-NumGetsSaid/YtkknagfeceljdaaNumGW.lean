/-
  NumGets: the walk of the law, given what works comes to.
-/
import Derived.Test.YtkknagfeceljdaaNumGA
import Derived.Outline
import Derived.Deep.CutBlock
import Derived.Deep.DeepCutAuto
namespace Go.Proofs.Ytkknagfeceljdaa
open Go.RowKit

/-- what a round's calls come to -/
def GetsCut (w : World) (b : Nat) (s : ByteArray) (bad : Bool) (n t m u rest ok : Value) (wx : World) : Prop :=
  ∃ (N M : Nat) (T U R : ByteArray) (o : Bool), n = .int .u64 N ∧ t = .string T ∧ m = .int .u64 M ∧ u = .string U ∧ rest = .string R ∧ ok = .bool o ∧ Below w.heap.size w wx ∧
    ((bad = false ∧ o = true ∧ N = M ∧ T = U ∧ R.size ≤ 300 ∧ CurAt b R false wx) ∨ ((bad || !o) = true ∧ N = 0 ∧ T = ByteArray.empty ∧ CurAt b s true wx))

theorem gets_num {w wx : World} {b : Nat} {s R : ByteArray} {bad o : Bool} {M : Nat} {V : Nat} {Q : ByteArray} (hb : Below w.heap.size w wx) (_hs : s.size ≤ 300)
    (hc : CurAt b (Num.curV bad o Q s) (bad || !o) wx) (hM : M = if o = true then V else 0) (hP : R = if o = true then Q else s) (hQ : Q.size ≤ 300) :
    GetsCut w b s bad (.int .u64 ((Num.curV bad o V 0 : Nat) : Int)) (.string ByteArray.empty) (.int .u64 (M : Int)) (.string ByteArray.empty) (.string R) (.bool o) wx := by
  refine ⟨_, M, _, _, R, o, rfl, rfl, rfl, rfl, rfl, rfl, hb, ?_⟩
  subst hM hP
  cases bad <;> cases o <;> simp [Num.curV] at hc ⊢ <;> first | exact hc | exact ⟨hQ, hc⟩
theorem gets_txt {w wx : World} {b : Nat} {s R : ByteArray} {bad o : Bool} {V U Q : ByteArray} (hb : Below w.heap.size w wx) (_hs : s.size ≤ 300)
    (hc : CurAt b (Num.curV bad o Q s) (bad || !o) wx) (hU : U = if o = true then V else ByteArray.empty) (hP : R = if o = true then Q else s) (hQ : Q.size ≤ 300) :
    GetsCut w b s bad (.int .u64 0) (.string (Num.curV bad o V ByteArray.empty)) (.int .u64 0) (.string U) (.string R) (.bool o) wx := by
  refine ⟨0, 0, _, U, R, o, rfl, rfl, rfl, rfl, rfl, rfl, hb, ?_⟩
  subst hU hP
  cases bad <;> cases o <;> simp [Num.curV] at hc ⊢ <;> first | exact hc | exact ⟨hQ, hc⟩

set_option maxRecDepth 100000 in
set_option maxHeartbeats 1000000 in
theorem numGets_walk0 (hW : WorksOk) (w : World) (s0 : ByteArray) (_hs : s0.size ≤ maxLen) (A : Option Addr) (len cap : Nat) (f : Nat → Int × Int) (_hlen : len ≤ maxLen) (hA : PairRow w A len .i64 .i64 f) :
    Calls Try.prog 4 #[.string s0, .slice A len cap] w fun e w' => e = .returned (.bool true) ∧ Below w.heap.size w w' := by
  by_cases hall : s0.size ≤ 300 ∧ len ≤ 300
  · obtain ⟨h1, h2⟩ := hall
    have hd1 : decide ((300 : Int) < (s0.size : Int)) = false := by simp; omega
    have hd2 : decide ((300 : Int) < (len : Int)) = false := by simp; omega
    have HA := Lib.hid hA; clear hA
    go_enter Try.func4, Try.ntmps4
    go_wp2_with fail
    refine (hW _).mono ?_; rintro e w1 ⟨rfl, hb⟩
    have HB := Lib.hid hb; clear hb
    go_wp2_with fail
    go_loopw [0, 7, 8] (fun s bad i wr => ∃ (t : ByteArray) (b : Bool) (k : Nat), k ≤ len ∧ s = .string t ∧ bad = .bool b ∧ i = .int .i64 k ∧ t.size ≤ 300 ∧ CurAt w1.heap.size t b wr ∧ Below w.heap.size w wr) (fun _ _ i _ => len - (intOf i).toNat)
    case atStart => exact ⟨s0, false, 0, by omega, rfl, rfl, rfl, h1, heap_alloc_new _ _, HB.out.alloc HB.out.size _⟩
    case round =>
      obtain ⟨s, bad, k, hk, rfl, rfl, rfl, hl, hc, hb⟩ := hrel
      have HC := Lib.hid hc; have HBr := Lib.hid hb; clear hc hb
      have hsz1 := HB.out.size
      by_cases hlt : k < len
      · obtain ⟨ad, rfl, c0, c1, wf0, wf1⟩ := HA.out.at_ HBr.out hlt
        have cc := HA.out.more HBr.out hlt
        have HM2 := Lib.hid (fun W hW => (HA.out.more (w2 := W) hW hlt).2)
        generalize (f k).1 = kd at *
        generalize (f k).2 = nn at *
        obtain ⟨-, c1'⟩ := cc
        have HN := i64_bd nn wf1
        clear wf0 wf1
        go_upto_block 2 with fail
        go_cut [9, 10, 11, 12, 13, 14] (fun n t m u rest ok wx => GetsCut w w1.heap.size s bad n t m u rest ok wx)
        case first =>
          rcases (by simp only [beq_iff_eq, beq_eq_false_iff_ne]; omega : (kd == 0) = true ∨ (kd == 0) = false ∧ (kd == 1) = true ∨ (kd == 0) = false ∧ (kd == 1) = false ∧ (kd == 2) = true ∨ (kd == 0) = false ∧ (kd == 1) = false ∧ (kd == 2) = false ∧ (kd == 3) = true ∨ (kd == 0) = false ∧ (kd == 1) = false ∧ (kd == 2) = false ∧ (kd == 3) = false) with e0 | ⟨e0, e1⟩ | ⟨e0, e1, e2⟩ | ⟨e0, e1, e2, e3⟩ | ⟨e0, e1, e2, e3⟩
          · obtain ⟨V, M, Q, R, o, hQ, HM, HR, CC, RR⟩ := both_small w1.heap.size s hl bad
            have CC := Lib.hid CC; have RR := Lib.hid RR
            go_wp2_with fail
            refine (CC.out _ HC.out).mono ?_; rintro e w2 ⟨rfl, q1, q2⟩
            have Q1 := Lib.hid q1; have Q2 := Lib.hid (below_of_grown HBr.out q2 HBr.out.size (by omega)); clear q1 q2
            go_wp2_with fail
            refine (RR.out _).mono ?_; rintro e w3 ⟨rfl, q3⟩
            have Q3 := Lib.hid q3; clear q3
            go_wp2_with fail
            go_meet
            exact gets_num (Q2.out.trans (Q3.out.mono Q2.out.size)) hl (heap_keep Q1.out Q3.out : CurAt _ _ _ _) HM.out HR.out hQ
          · obtain ⟨V, M, Q, R, o, hQ, HM, HR, CC, RR⟩ := both_wide w1.heap.size s hl bad
            have CC := Lib.hid CC; have RR := Lib.hid RR
            go_wp2_with fail
            refine (CC.out _ HC.out).mono ?_; rintro e w2 ⟨rfl, q1, q2⟩
            have Q1 := Lib.hid q1; have Q2 := Lib.hid (below_of_grown HBr.out q2 HBr.out.size (by omega)); clear q1 q2
            go_wp2_with fail
            refine (RR.out _).mono ?_; rintro e w3 ⟨rfl, q3⟩
            have Q3 := Lib.hid q3; clear q3
            go_wp2_with fail
            go_meet
            exact gets_num (Q2.out.trans (Q3.out.mono Q2.out.size)) hl (heap_keep Q1.out Q3.out : CurAt _ _ _ _) HM.out HR.out hQ
          · obtain ⟨V, M, Q, R, o, hQ, HM, HR, CC, RR⟩ := both_text w1.heap.size s hl bad nn HN
            have CC := Lib.hid CC; have RR := Lib.hid RR
            go_wp2_with fail
            refine (CC.out _ HC.out).mono ?_; rintro e w2 ⟨rfl, q1, q2⟩
            have Q1 := Lib.hid q1; have Q2 := Lib.hid (below_of_grown HBr.out q2 HBr.out.size (by omega)); clear q1 q2
            have c2 := HM2.out _ Q2.out; go_wp2_with fail
            refine (RR.out _).mono ?_; rintro e w3 ⟨rfl, q3⟩
            have Q3 := Lib.hid q3; clear q3
            go_wp2_with fail
            go_meet
            exact gets_txt (Q2.out.trans (Q3.out.mono Q2.out.size)) hl (heap_keep Q1.out Q3.out : CurAt _ _ _ _) HM.out HR.out hQ
          · obtain ⟨V, M, Q, R, o, hQ, HM, HR, CC, RR⟩ := both_fixed w1.heap.size s hl bad nn
            have CC := Lib.hid CC; have RR := Lib.hid RR
            go_wp2_with fail
            refine (CC.out _ HC.out).mono ?_; rintro e w2 ⟨rfl, q1, q2⟩
            have Q1 := Lib.hid q1; have Q2 := Lib.hid (below_of_grown HBr.out q2 HBr.out.size (by omega)); clear q1 q2
            have c2 := HM2.out _ Q2.out; go_wp2_with fail
            refine (RR.out _).mono ?_; rintro e w3 ⟨rfl, q3⟩
            have Q3 := Lib.hid q3; clear q3
            go_wp2_with fail
            go_meet
            exact gets_txt (Q2.out.trans (Q3.out.mono Q2.out.size)) hl (heap_keep Q1.out Q3.out : CurAt _ _ _ _) HM.out HR.out hQ
          · obtain ⟨V, M, Q, R, o, hQ, HM, HR, CC, RR⟩ := both_take w1.heap.size s hl bad nn
            have CC := Lib.hid CC; have RR := Lib.hid RR
            go_wp2_with fail
            refine (CC.out _ HC.out).mono ?_; rintro e w2 ⟨rfl, q1, q2⟩
            have Q1 := Lib.hid q1; have Q2 := Lib.hid (below_of_grown HBr.out q2 HBr.out.size (by omega)); clear q1 q2
            have c2 := HM2.out _ Q2.out; go_wp2_with fail
            refine (RR.out _).mono ?_; rintro e w3 ⟨rfl, q3⟩
            have Q3 := Lib.hid q3; clear q3
            go_wp2_with fail
            go_meet
            exact gets_txt (Q2.out.trans (Q3.out.mono Q2.out.size)) hl (heap_keep Q1.out Q3.out : CurAt _ _ _ _) HM.out HR.out hQ
        case rest =>
          obtain ⟨N, M, T, U, R, o, rfl, rfl, rfl, rfl, rfl, rfl, hbx, hor⟩ := hcut
          have HBx := Lib.hid hbx; clear hbx
          rcases hor with ⟨rfl, rfl, rfl, rfl, hR, hcx⟩ | ⟨hbo, rfl, rfl, hcx⟩
          · have HD := Lib.hid (fun W (h : CurAt w1.heap.size R false W) => curDone_same _ R false W h _ rfl)
            obtain ⟨x0, x1, -, -⟩ := hcx.cells
            have HCx := Lib.hid hcx; clear hcx
            go_wp2_with fail
            refine (HD.out _ HCx.out).mono ?_; rintro e w4 ⟨rfl, rfl⟩
            go_wp2_with fail
            go_roundw
            case rel => exact ⟨R, false, k + 1, by omega, rfl, rfl, by go_num, hR, HCx.out, HBx.out⟩
            case measure => simp [intOf]; omega
          · have HD := Lib.hid (fun W (h : CurAt w1.heap.size s true W) => curDone_same _ s true W h false (by simp))
            obtain ⟨x0, x1, -, -⟩ := hcx.cells
            have HCx := Lib.hid hcx; clear hcx
            rcases (by cases bad <;> cases o <;> simp_all : bad = true ∨ bad = false ∧ o = false) with rfl | ⟨rfl, rfl⟩
            all_goals
              go_wp2_with fail
              refine (HD.out _ HCx.out).mono ?_; rintro e w4 ⟨rfl, rfl⟩
              go_wp2_with fail
              go_roundw
              case rel => exact ⟨s, true, k + 1, by omega, rfl, rfl, by go_num, hl, HCx.out, HBx.out⟩
              case measure => simp [intOf]; omega
      · go_wp2_with fail
        go_ret
        exact ⟨rfl, HBr.out⟩
  · have hd : decide ((300 : Int) < (s0.size : Int)) = true ∨ decide ((300 : Int) < (s0.size : Int)) = false ∧ decide ((300 : Int) < (len : Int)) = true := by simp only [decide_eq_true_eq, decide_eq_false_iff_not]; omega
    rcases hd with h1 | ⟨h1, h2⟩
    all_goals
      go_enter Try.func4, Try.ntmps4
      go_wp2_with fail
      refine (hW _).mono ?_; rintro e w1 ⟨rfl, hb⟩
      have HB := Lib.hid hb; clear hb
      go_wp2_with fail
      go_ret
      exact ⟨rfl, HB.out⟩
end Go.Proofs.Ytkknagfeceljdaa
