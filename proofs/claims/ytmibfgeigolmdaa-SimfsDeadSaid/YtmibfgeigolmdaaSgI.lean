/-
  SimfsDead: the walk.
-/
import Derived.Test.YtmibfgeigolmdaaSgG
namespace Go.Proofs.Ytmibfgeigolmdaa
open Go.RowKit
set_option maxRecDepth 100000 in
set_option maxHeartbeats 4000000 in
theorem simfsDead_walk0 (W : World) (A : Option Addr) (n c : Nat) (hn : n ≤ maxLen) (o : Nat → ActAt) (hA : Row 5 (fun i => (o i).cell) W A n) (ho : ∀ i, i < n → ActIn W (o i)) (A2 : Option Addr) (n2 c2 : Nat) (hn2 : n2 ≤ maxLen) (o2 : Nat → ActAt) (hA2 : Row 5 (fun i => (o2 i).cell) W A2 n2) (ho2 : ∀ i, i < n2 → ActIn W (o2 i)) :
    Calls Try.prog 6 #[.slice A n c, .slice A2 n2 c2] W fun e w' => e = .returned (.bool true) ∧ Below W.heap.size W w' := by
  have HA := Lib.hid hA; have HO := Lib.hid ho; have HA2 := Lib.hid hA2; have HO2 := Lib.hid ho2
  have HFW := Lib.hid (fun U (hb : Below W.heap.size W U) => fewActs_any A n c hn o U (hA.later hb) (fun i hi => (ho i hi).later hb))
  have HFW2 := Lib.hid (fun U (hb : Below W.heap.size W U) => fewActs_any A2 n2 c2 hn2 o2 U (hA2.later hb) (fun i hi => (ho2 i hi).later hb))
  clear hA ho hA2 ho2
  go_enter Try.func6, Try.ntmps6
  go_wp2_with fail
  refine (works_any W).mono ?_; rintro e w1 ⟨rfl, hb1⟩
  have HB1 := Lib.hid hb1; clear hb1
  go_wp2_with fail
  refine (runs_new HB1.out 10000 (by decide)).mono ?_; rintro e w2 ⟨fb, rfl, hr, hb2⟩
  have HR0 := Lib.hid hr; clear hr hb2
  obtain ⟨base, hbase⟩ : ∃ base, base = w1.heap.size := ⟨_, rfl⟩
  rw [← hbase] at HR0
  clear hbase
  go_wp2_with fail
  refine (HFW.out _ HR0.out.bel).mono ?_; rintro e w3 ⟨rfl, hb3⟩
  have HR1 := Lib.hid (HR0.out.far hb3); clear hb3 HR0
  cases hfew : fewAs o n
  · clear hfew
    go_wp2_with fail
    go_ret
    exact ⟨rfl, HR1.out.bel⟩
  obtain ⟨hn40, hfo⟩ := fewAs_yes hfew
  have HFO := Lib.hid hfo
  clear hfew hfo
  go_wp2_with fail
  refine (HFW2.out _ HR1.out.bel).mono ?_; rintro e w4 ⟨rfl, hb4⟩
  have HR2 := Lib.hid (HR1.out.far hb4); clear hb4 HR1 HFW2
  cases hfew : fewAs o2 n2
  · clear hfew
    go_wp2_with fail
    go_ret
    exact ⟨rfl, HR2.out.bel⟩
  obtain ⟨hn240, hfo⟩ := fewAs_yes hfew
  have HFO2 := Lib.hid hfo
  clear hfew hfo
  have HR1 := HR2
  clear HR2
  go_wp2_with fail
  go_loopw [8] (fun i wr => ∃ (k : Nat) (S : Sf.St), k ≤ n ∧ i = .int .i64 k ∧ Runs W base fb (300 * k) k S wr) (fun i _ => n - (intOf i).toNat)
  case atStart => exact ⟨0, _, Nat.zero_le _, rfl, HR1.out⟩
  case round =>
    obtain ⟨k, S, hkn, rfl, hr⟩ := hrel
    have HR := Lib.hid hr; clear hr
    have i0 : (0 : Int) ≤ (k : Int) := Int.natCast_nonneg _
    by_cases hlt : k < n
    · have i1 : (k : Int) < (n : Int) := by omega
      have d1 : decide ((k : Int) < (n : Int)) = true := decide_eq_true i1
      obtain ⟨ad, rfl, cc0, cc⟩ := HA.out.at_ HR.out.bel hlt
      have x0 : wr.cell? (ad.add (k * 5)) = some (.int .i64 (o k).k) := cc0 (by omega)
      have x1 : wr.cell? ⟨(ad.add (k * 5)).block, (ad.add (k * 5)).off + 1, none⟩ = some (.string (o k).a) := cc 1 (by omega) (by omega)
      have x2 : wr.cell? ⟨(ad.add (k * 5)).block, (ad.add (k * 5)).off + 2, none⟩ = some (.string (o k).b) := cc 2 (by omega) (by omega)
      have x3 : wr.cell? ⟨(ad.add (k * 5)).block, (ad.add (k * 5)).off + 3, none⟩ = some (.int .i64 (o k).n) := cc 3 (by omega) (by omega)
      have x4 : wr.cell? ⟨(ad.add (k * 5)).block, (ad.add (k * 5)).off + 4, none⟩ = some (.slice (o k).ka (o k).kp.n (o k).kc) := cc 4 (by omega) (by omega)
      have HC := Lib.hid (HR.out.act (by omega) (by omega) (HFO.out k hlt) (HO.out k hlt))
      have hk1 : k + 1 ≤ n := hlt
      have HKL := Lib.hid hk1
      clear cc0 cc HR hkn hk1
      go_wp2_with fail
      refine HC.out.mono ?_; rintro e w5 ⟨y, -, rfl, hr5, -⟩
      have HR5 := Lib.hid hr5; clear hr5 x0 x1 x2 x3 x4 HC
      go_wp2_with fail
      go_roundw
      case rel => exact ⟨k + 1, _, HKL.out, by go_num, by rw [Nat.mul_succ]; exact HR5.out⟩
      case measure => simp [intOf]; omega
    · have d1 : decide ((k : Int) < (n : Int)) = false := decide_eq_false (by omega)
      obtain rfl : k = n := by omega
      clear hlt hkn i0
      have HR := Lib.hid (HR.out.mono (B2 := 12000) (N2 := 40) (by omega) hn40)
      clear HFO HO HA HFW HR1 d1
      go_wp2_with fail
      refine (HR.out.fuse 0).mono ?_; rintro e w5 ⟨rfl, hr, -⟩
      have hfu : ({ S with fuse := Sf.fuseOf 0 } : Sf.St).fuse = 0 := by show Sf.fuseOf 0 = 0; decide
      generalize ({ S with fuse := Sf.fuseOf 0 } : Sf.St) = S1 at *
      have R5 := Lib.hid hr
      have hdead : S1.dirDo.1.dead = true := by
        unfold Sf.St.dirDo
        cases hd : S1.dead
        · rw [hfu]; rfl
        · exact hd
      clear hr HR hfu
      go_wp2_with fail
      refine (R5.out.dir (by decide)).mono ?_; rintro e w6 ⟨rfl, hr, -⟩
      generalize S1.dirDo.1 = S2 at *
      generalize S1.dirDo.2 = e2 at *
      have R6 := Lib.hid hr; have HDE := Lib.hid hdead
      clear hr R5 hdead
      go_wp2_with fail
      refine (Steps_any R6.out.fs).mono ?_; rintro e w7 ⟨rfl, rfl⟩
      go_wp2_with fail
      refine (R6.out.list).mono ?_; rintro e w8 ⟨A6, c6, rfl, ht6, hb6⟩
      have R8 := Lib.hid (R6.out.far hb6)
      have hlf := R6.out.few
      obtain ⟨l, hl⟩ : ∃ l, l = Sf.list S2.names := ⟨_, rfl⟩
      rw [← hl] at ht6 hlf ⊢
      have HLL := Lib.hid hl
      have HT6 := Lib.hid (ht6.from_ R6.out.bel.size)
      obtain ⟨m, hm⟩ : ∃ m, m = l.length := ⟨_, rfl⟩
      have HLM := Lib.hid hm
      rw [← hm] at HT6 hlf ⊢
      clear ht6 hb6 hl R6 hm
      go_wp2_with fail
      go_loopw [11, 12] (fun i _ wr => ∃ (q : Nat) (T : Sf.St), q ≤ n2 ∧ i = .int .i64 q ∧ Runs W base fb (12000 + 300 * q) (41 + q) T wr ∧ (T.dead = true ∧ T.steps = S2.steps ∧ T.names = S2.names) ∧ Txs wr W.heap.size (.slice A6 m c6) l) (fun i _ _ => n2 - (intOf i).toNat)
      case atStart => exact ⟨0, S2, Nat.zero_le _, rfl, R8.out, ⟨HDE.out, rfl, rfl⟩, HT6.out⟩
      case round =>
        obtain ⟨q, T, hqn, rfl, hr, hT, htn⟩ := hrel
        have HR := Lib.hid hr; have HT := Lib.hid hT; have HTN := Lib.hid htn
        clear hr hT htn
        have i0 : (0 : Int) ≤ (q : Int) := Int.natCast_nonneg _
        by_cases hlt : q < n2
        · have i1 : (q : Int) < (n2 : Int) := by omega
          have d1 : decide ((q : Int) < (n2 : Int)) = true := decide_eq_true i1
          obtain ⟨ad, rfl, cc0, cc⟩ := HA2.out.at_ HR.out.bel hlt
          have x0 : wr.cell? (ad.add (q * 5)) = some (.int .i64 (o2 q).k) := cc0 (by omega)
          have x1 : wr.cell? ⟨(ad.add (q * 5)).block, (ad.add (q * 5)).off + 1, none⟩ = some (.string (o2 q).a) := cc 1 (by omega) (by omega)
          have x2 : wr.cell? ⟨(ad.add (q * 5)).block, (ad.add (q * 5)).off + 2, none⟩ = some (.string (o2 q).b) := cc 2 (by omega) (by omega)
          have x3 : wr.cell? ⟨(ad.add (q * 5)).block, (ad.add (q * 5)).off + 3, none⟩ = some (.int .i64 (o2 q).n) := cc 3 (by omega) (by omega)
          have x4 : wr.cell? ⟨(ad.add (q * 5)).block, (ad.add (q * 5)).off + 4, none⟩ = some (.slice (o2 q).ka (o2 q).kp.n (o2 q).kc) := cc 4 (by omega) (by omega)
          have HC := Lib.hid (HR.out.act (by omega) (by omega) (HFO2.out q hlt) (HO2.out q hlt))
          have HX0 : Hid (∀ U, Below W.heap.size W U → U.cell? (ad.add (q * 5)) = some (.int .i64 (o2 q).k)) := Lib.hid (fun U hU => by
            obtain ⟨ad3, e3, y0, -⟩ := HA2.out.at_ hU hlt
            cases e3
            exact y0 (by omega))
          have hq1 : q + 1 ≤ n2 := hlt
          have HQ1 := Lib.hid hq1
          have HAD := Lib.hid (fun y (h9 : (o2 q).k ≠ 9) => Sf.act_dead HT.out.1 (o2 q) y h9)
          clear cc0 cc hqn hq1
          generalize hK : (o2 q).k = K at *
          by_cases h9 : K = 9
          · subst h9
            have HRM := Lib.hid (HR.out.mono (B2 := 12000 + 300 * (q + 1)) (N2 := 41 + (q + 1)) (by omega) (by omega))
            clear HC HX0 HAD HR hK
            go_wp2_with fail
            go_roundw
            case rel => exact ⟨q + 1, T, HQ1.out, by go_num, HRM.out, HT.out, HTN.out⟩
            case measure => simp [intOf]; omega
          · have d9 : decide (K = 9) = false := decide_eq_false h9
            have b9 : (K == 9) = false := by simpa using h9
            have HAD2 := Lib.hid (fun y => HAD.out y h9)
            clear HAD HR h9
            go_wp2_with fail
            refine HC.out.mono ?_; rintro e w9 ⟨y, -, rfl, hr, hst⟩
            obtain ⟨a1, a2, a3, a4⟩ := HAD2.out y
            have R9 := Lib.hid hr
            have HT9 : Hid (((T.act (o2 q) y).1.dead = true) ∧ (T.act (o2 q) y).1.steps = S2.steps ∧ (T.act (o2 q) y).1.names = S2.names) := Lib.hid ⟨a1, a2.trans HT.out.2.1, a3.trans HT.out.2.2⟩
            have HTN9 := Lib.hid (HTN.out.stays hst.st)
            have y0 := HX0.out w9 R9.out.bel
            generalize (T.act (o2 q) y).1 = T2 at *
            generalize (T.act (o2 q) y).2 = e9 at *
            clear hr hst a1 a2 a3 HAD2 HC HT HTN x0 x1 x2 x3 x4 hK d9 b9
            have HDC := Lib.hid (Dead_any R9.out.fs)
            rw [HT9.out.1] at HDC
            by_cases h0 : 0 ≤ K
            · have d0 : decide (0 ≤ K) = true := decide_eq_true h0
              by_cases h6 : K ≤ 6
              · have d6 : decide (K ≤ 6) = true := decide_eq_true h6
                obtain rfl : e9 = 13 := a4 h0 h6
                clear a4 h0 h6
                go_wp2_with fail
                refine HDC.out.mono ?_; rintro e w10 ⟨rfl, rfl⟩
                go_wp2_with fail
                go_roundw
                case rel => exact ⟨q + 1, T2, HQ1.out, by go_num, R9.out, HT9.out, HTN9.out⟩
                case measure => simp [intOf]; omega
              · have d6 : decide (K ≤ 6) = false := decide_eq_false h6
                clear a4 h0 h6
                go_wp2_with fail
                refine HDC.out.mono ?_; rintro e w10 ⟨rfl, rfl⟩
                go_wp2_with fail
                go_roundw
                case rel => exact ⟨q + 1, T2, HQ1.out, by go_num, R9.out, HT9.out, HTN9.out⟩
                case measure => simp [intOf]; omega
            · have d0 : decide (0 ≤ K) = false := decide_eq_false h0
              clear a4 h0
              go_wp2_with fail
              refine HDC.out.mono ?_; rintro e w10 ⟨rfl, rfl⟩
              go_wp2_with fail
              go_roundw
              case rel => exact ⟨q + 1, T2, HQ1.out, by go_num, R9.out, HT9.out, HTN9.out⟩
              case measure => simp [intOf]; omega
        · have d1 : decide ((q : Int) < (n2 : Int)) = false := decide_eq_false (by omega)
          obtain rfl : q = n2 := by omega
          have R10 := Lib.hid (HR.out.mono (B2 := 24000) (N2 := 100) (by omega) (by omega))
          clear HFO2 HO2 HA2 hlt hqn i0 HR
          go_wp2_with fail
          refine (Steps_any R10.out.fs).mono ?_; rintro e w9 ⟨rfl, rfl⟩
          rw [HT.out.2.1]
          go_wp2_with fail
          refine (R10.out.list).mono ?_; rintro e w11 ⟨A11, c11, rfl, ht11, hb11⟩
          rw [HT.out.2.2, ← HLL.out] at ht11 ⊢
          have R11 := Lib.hid (R10.out.far hb11)
          have HTX := Lib.hid (Texts_any A11 A6 c11 c6 l l (by rw [← HLM.out]; omega) (by rw [← HLM.out]; omega) w11 ht11.row (HTN.out.far hb11).row)
          rw [← HLM.out] at HTX ⊢
          rw [decide_eq_true (show l = l from rfl)] at HTX
          clear ht11 hb11 R10 HTN
          go_wp2_with fail
          refine HTX.out.mono ?_; rintro e w12 ⟨rfl, hb12⟩
          have R12 := Lib.hid (R11.out.far hb12)
          clear hb12 R11 HTX
          go_wp2_with fail
          refine (R12.out.crash (by decide) (by decide) (k := Sf.keep0) (fun U _ _ => keep_none U)).mono ?_; rintro e w13 ⟨rfl, hr, -, -⟩
          have R13 := Lib.hid hr
          clear hr R12
          go_wp2_with fail
          refine (Dead_any R13.out.fs).mono ?_; rintro e w14 ⟨rfl, rfl⟩
          rw [show (T.crash Sf.keep0).dead = false from rfl]
          go_wp2_with fail
          go_ret
          exact ⟨rfl, R13.out.bel⟩
set_option maxRecDepth 100000 in
theorem simfsDead_walk {H : Type} {enc : TypeId × Value → H} {r0 r1 : Reach} {b0 b1 : Nat} {v0 v1 : Value} {d0 d1 : DataW H} {p0 p1 : List MemPlace} (w : World)
    (o0 : Value.okWide Try.prog w r0 b0 22 v0) (h0 : DataW.Trod enc Try.prog w 0 (fun _ => true) true 22 v0 d0 p0)
    (o1 : Value.okWide Try.prog w r1 b1 22 v1) (h1 : DataW.Trod enc Try.prog w 0 (fun _ => true) true 22 v1 d1 p1) :
    Calls Try.prog 6 #[v0, v1] w fun e w' => e = .returned (.bool true) ∧ Below w.heap.size w w' := by
  obtain ⟨A, n, c, o, rfl, hn, hA, ho⟩ := open_acts o0 h0
  obtain ⟨A2, n2, c2, o2, rfl, hn2, hA2, ho2⟩ := open_acts o1 h1
  exact simfsDead_walk0 w A n c hn o hA ho A2 n2 c2 hn2 o2 hA2 ho2
end Go.Proofs.Ytmibfgeigolmdaa
