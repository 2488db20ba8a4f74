/-
  SimfsRenames: the walk.
-/
import Derived.Test.YtmibfgeigolmdaaSgG
namespace Go.Proofs.Ytmibfgeigolmdaa
open Go.RowKit
theorem rename_reads {S : Sf.St} (hn : Sf.Nice S.names) (hk : Sf.KS S.names) {a b : ByteArray} (h : (S.rename a b).2 = 0) (hk2 : Sf.KS (S.rename a b).1.names) (hn2 : Sf.Nice (S.rename a b).1.names) :
    (S.rename a b).1.read b = ((S.read a).1, 0) ∧ (a ≠ b → ((S.rename a b).1.read a).2 = 11) ∧ ((S.rename a b).1.total : Int) = (S.total : Int) - (if a = b then 0 else ((S.read b).1.size : Int)) := by
  obtain ⟨x, h1, h2, h3, h4, h5, h6, h7⟩ := Sf.total_rename hn hk h hk2 hn2
  refine ⟨?_, fun hab => ?_, h7⟩
  · rw [Sf.read_of h3 h4, Sf.read_of h2 h1, h6]
  · rw [Sf.read_no h3 (h5 hab)]
set_option maxRecDepth 100000 in
set_option maxHeartbeats 4000000 in
theorem simfsRenames_walk0 (W : World) (A : Option Addr) (n c : Nat) (hn : n ≤ maxLen) (o : Nat → ActAt) (hA : Row 5 (fun i => (o i).cell) W A n) (ho : ∀ i, i < n → ActIn W (o i)) (a b : ByteArray) (ha : a.size ≤ maxLen) (hb : b.size ≤ maxLen) :
    Calls Try.prog 7 #[.slice A n c, .string a, .string b] W fun e w' => e = .returned (.bool true) ∧ Below W.heap.size W w' := by
  have HA := Lib.hid hA; have HO := Lib.hid ho
  have HFW := Lib.hid (fun U (hb : Below W.heap.size W U) => fewActs_any A n c hn o U (hA.later hb) (fun i hi => (ho i hi).later hb))
  clear hA ho
  go_enter Try.func7, Try.ntmps7
  go_wp2_with fail
  refine (works_any W).mono ?_; rintro e w1 ⟨rfl, hb1⟩
  have HB1 := Lib.hid hb1; clear hb1
  go_wp2_with fail
  refine (runs_new HB1.out 10000 (by decide)).mono ?_; rintro e w2 ⟨fb, rfl, hr, hb2⟩
  have HR0 := Lib.hid hr; clear hr hb2
  obtain ⟨base, hbase⟩ : ∃ base, base = w1.heap.size := ⟨_, rfl⟩
  rw [← hbase] at HR0
  clear hbase
  go_wp2_with fail
  refine (HFW.out _ HR0.out.bel).mono ?_; rintro e w3 ⟨rfl, hb3⟩
  have HR1 := Lib.hid (HR0.out.far hb3); clear hb3 HR0
  cases hfew : fewAs o n
  · clear hfew
    go_wp2_with fail
    go_ret
    exact ⟨rfl, HR1.out.bel⟩
  obtain ⟨hn40, hfo⟩ := fewAs_yes hfew
  have HFO := Lib.hid hfo
  clear hfew hfo
  by_cases hza : 60 < a.size
  · have d1 : decide ((60 : Int) < (a.size : Int)) = true := decide_eq_true (by omega)
    have d2 : decide (60 < a.size) = true := decide_eq_true hza
    go_wp2_with fail
    go_ret
    exact ⟨rfl, HR1.out.bel⟩
  have d1 : decide ((60 : Int) < (a.size : Int)) = false := decide_eq_false (by omega)
  have d2 : decide (60 < a.size) = false := decide_eq_false hza
  by_cases hzb : 60 < b.size
  · have d3 : decide ((60 : Int) < (b.size : Int)) = true := decide_eq_true (by omega)
    have d4 : decide (60 < b.size) = true := decide_eq_true hzb
    go_wp2_with fail
    go_ret
    exact ⟨rfl, HR1.out.bel⟩
  have d3 : decide ((60 : Int) < (b.size : Int)) = false := decide_eq_false (by omega)
  have d4 : decide (60 < b.size) = false := decide_eq_false hzb
  go_wp2_with fail
  clear d1 d2 d3 d4
  go_loopw [10] (fun i wr => ∃ (k : Nat) (S : Sf.St), k ≤ n ∧ i = .int .i64 k ∧ Runs W base fb (300 * k) k S wr) (fun i _ => n - (intOf i).toNat)
  case atStart => exact ⟨0, _, Nat.zero_le _, rfl, HR1.out⟩
  case round =>
    obtain ⟨k, S, hkn, rfl, hr⟩ := hrel
    have HR := Lib.hid hr; clear hr
    have i0 : (0 : Int) ≤ (k : Int) := Int.natCast_nonneg _
    by_cases hlt : k < n
    · have i1 : (k : Int) < (n : Int) := by omega
      have d1 : decide ((k : Int) < (n : Int)) = true := decide_eq_true i1
      obtain ⟨ad, rfl, cc0, cc⟩ := HA.out.at_ HR.out.bel hlt
      have x0 : wr.cell? (ad.add (k * 5)) = some (.int .i64 (o k).k) := cc0 (by omega)
      have x1 : wr.cell? ⟨(ad.add (k * 5)).block, (ad.add (k * 5)).off + 1, none⟩ = some (.string (o k).a) := cc 1 (by omega) (by omega)
      have x2 : wr.cell? ⟨(ad.add (k * 5)).block, (ad.add (k * 5)).off + 2, none⟩ = some (.string (o k).b) := cc 2 (by omega) (by omega)
      have x3 : wr.cell? ⟨(ad.add (k * 5)).block, (ad.add (k * 5)).off + 3, none⟩ = some (.int .i64 (o k).n) := cc 3 (by omega) (by omega)
      have x4 : wr.cell? ⟨(ad.add (k * 5)).block, (ad.add (k * 5)).off + 4, none⟩ = some (.slice (o k).ka (o k).kp.n (o k).kc) := cc 4 (by omega) (by omega)
      have HC := Lib.hid (HR.out.act (by omega) (by omega) (HFO.out k hlt) (HO.out k hlt))
      have hk1 : k + 1 ≤ n := hlt
      have HKL := Lib.hid hk1
      clear cc0 cc HR hkn hk1
      go_wp2_with fail
      refine HC.out.mono ?_; rintro e w5 ⟨y, -, rfl, hr5, -⟩
      have HR5 := Lib.hid hr5; clear hr5 x0 x1 x2 x3 x4 HC
      go_wp2_with fail
      go_roundw
      case rel => exact ⟨k + 1, _, HKL.out, by go_num, by rw [Nat.mul_succ]; exact HR5.out⟩
      case measure => simp [intOf]; omega
    · have d1 : decide ((k : Int) < (n : Int)) = false := decide_eq_false (by omega)
      obtain rfl : k = n := by omega
      clear hlt hkn i0
      have HR := Lib.hid (HR.out.mono (B2 := 12000) (N2 := 40) (by omega) hn40)
      clear HFO HO HA HFW HR1 d1
      go_wp2_with fail
      refine (HR.out.size (by decide)).mono ?_; rintro e w5 ⟨rfl, hb5⟩
      have R5 := Lib.hid (HR.out.far hb5)
      clear hb5
      go_wp2_with fail
      refine (R5.out.read a ha).mono ?_; rintro e w6 ⟨rfl, hb6⟩
      have R6 := Lib.hid (R5.out.far hb6)
      clear hb6 R5
      go_wp2_with fail
      refine (R6.out.read b hb).mono ?_; rintro e w7 ⟨rfl, hb7⟩
      have R7 := Lib.hid (R6.out.far hb7)
      clear hb7 R6
      have HER : Hid ((S.rename a b).2 ≠ 0 → (S.rename a b).1.total = S.total) := Lib.hid (fun h => (Sf.rename_errs h).total)
      have HNK := Lib.hid (And.intro R7.out.ok.nice R7.out.keys)
      have HTO := R7.out.ok.total
      have HRB : Hid ((S.read b).1.size ≤ 12000) := Lib.hid (by
        unfold Sf.St.read
        rcases Sf.find_cases S b with ⟨x, e, -, hl⟩ | ⟨e, -⟩ | ⟨e, -⟩
        · rw [e]; exact (R7.out.ok.file x (R7.out.ok.lives hl)).size
        · rw [e]; exact Nat.zero_le _
        · rw [e]; exact Nat.zero_le _)
      have HRE := Lib.hid (R7.out.rename (by decide) a b ha hb)
      have HOK : Hid ((S.rename a b).2 = 0 → ∀ w', Runs W base fb 12000 41 (S.rename a b).1 w' → (S.rename a b).1.read b = ((S.read a).1, 0) ∧ (a ≠ b → ((S.rename a b).1.read a).2 = 11) ∧ ((S.rename a b).1.total : Int) = (S.total : Int) - (if a = b then 0 else ((S.read b).1.size : Int))) := Lib.hid (fun h w' hr => rename_reads HNK.out.1 HNK.out.2 h hr.keys hr.ok.nice)
      clear R7 HR
      generalize hSR : S.rename a b = SR at *
      obtain ⟨S2, e2⟩ := SR
      generalize hRA : S.read a = RA at *
      obtain ⟨ta, ea⟩ := RA
      generalize hRB : S.read b = RB at *
      obtain ⟨tb, eb⟩ := RB
      generalize S.total = tot at *
      simp only [] at HER HOK HRB HRE
      clear hSR hRA hRB HNK
      go_wp2_with fail
      refine HRE.out.mono ?_; rintro e w8 ⟨rfl, hr, -⟩
      have R8 := Lib.hid hr
      clear hr HRE
      by_cases he : e2 = 0
      · subst he
        obtain ⟨q1, q2, q3⟩ := HOK.out rfl w8 R8.out
        have HQ2 := Lib.hid q2; have HQ3 := Lib.hid q3
        have HR9 := Lib.hid (R8.out.read b hb)
        rw [q1] at HR9
        clear q1 q2 q3 HOK HER
        go_wp2_with fail
        refine HR9.out.mono ?_; rintro e w9 ⟨rfl, hb9⟩
        have R9 := Lib.hid (R8.out.far hb9)
        clear hb9 R8 HR9
        go_wp2_with fail
        have HRA := Lib.hid (R9.out.read a ha)
        generalize hRA : S2.read a = RA at *
        obtain ⟨ta2, ea2⟩ := RA
        simp only [] at HQ2
        refine HRA.out.mono ?_; rintro e w10 ⟨rfl, hb10⟩
        have R10 := Lib.hid (R9.out.far hb10)
        have HSZ := Lib.hid (R10.out.size (by decide))
        clear hb10 R9 HRA hRA
        have b0 : (ta.toList == ta.toList) = true := by simp
        by_cases hab : a = b
        · have hq := HQ3.out
          rw [if_pos hab, Int.sub_zero] at hq
          have HQ := Lib.hid hq
          subst hab
          have b1 : (a.toList == a.toList) = true := by simp
          clear hq HQ3 HQ2
          go_wp2_with fail
          refine HSZ.out.mono ?_; rintro e w11 ⟨rfl, hb11⟩
          have HFIN := Lib.hid (R10.out.far hb11)
          rw [HQ.out]
          clear hb11 HSZ R10
          go_wp2_with fail
          go_ret
          exact ⟨rfl, HFIN.out.bel⟩
        · have hq := HQ3.out
          rw [if_neg hab] at hq
          have HQ := Lib.hid hq
          obtain rfl : ea2 = 11 := HQ2.out hab
          have b1 : (a.toList == b.toList) = false := by rw [str_beq]; simpa using hab
          have hbz := HRB.out
          have htn : (tot : Int) - (tb.size : Int) ≤ 9000000 ∧ -12000 ≤ (tot : Int) - (tb.size : Int) := by omega
          have HTN := Lib.hid htn
          have HSZ2 : Hid (IntKind.i64.wrap ((tot : Int) - (tb.size : Int)) = (tot : Int) - (tb.size : Int) ∧ wrap64 ((tot : Int) - (tb.size : Int)) = (tot : Int) - (tb.size : Int)) := Lib.hid ⟨IntWalk.i64_in _ (by omega), IntWalk.wrap64_in _ (by omega)⟩
          clear hq HQ3 HQ2 hab htn hbz
          have hw1 := HSZ2.out.1
          have hw2 := HSZ2.out.2
          go_wp2_with fail
          refine HSZ.out.mono ?_; rintro e w11 ⟨rfl, hb11⟩
          have HFIN := Lib.hid (R10.out.far hb11)
          rw [HQ.out]
          clear hb11 HSZ R10
          go_wp2_with fail
          go_ret
          exact ⟨rfl, HFIN.out.bel⟩
      · have e0 : (e2 != 0) = true := by simpa using he
        have e1 : (e2 == 0) = false := by simpa using he
        have e3 : decide (e2 = 0) = false := decide_eq_false he
        have HQ := Lib.hid (HER.out he)
        have HSZ := Lib.hid (R8.out.size (by decide))
        clear he HOK HER
        go_wp2_with fail
        refine HSZ.out.mono ?_; rintro e w11 ⟨rfl, hb11⟩
        have HFIN := Lib.hid (R8.out.far hb11)
        rw [HQ.out]
        clear hb11 HSZ R8
        go_wp2_with fail
        go_ret
        exact ⟨rfl, HFIN.out.bel⟩
set_option maxRecDepth 100000 in
theorem simfsRenames_walk {H : Type} {enc : TypeId × Value → H} {r0 : Reach} {b0 : Nat} {v0 : Value} {d0 : DataW H} {p0 : List MemPlace} (w : World)
    (o0 : Value.okWide Try.prog w r0 b0 22 v0) (h0 : DataW.Trod enc Try.prog w 0 (fun _ => true) true 22 v0 d0 p0) (a : ByteArray) (ha : a.size ≤ maxLen) (b : ByteArray) (hb : b.size ≤ maxLen) :
    Calls Try.prog 7 #[v0, .string a, .string b] w fun e w' => e = .returned (.bool true) ∧ Below w.heap.size w w' := by
  obtain ⟨A, n, c, o, rfl, hn, hA, ho⟩ := open_acts o0 h0
  exact simfsRenames_walk0 w A n c hn o hA ho a b ha hb
end Go.Proofs.Ytmibfgeigolmdaa
