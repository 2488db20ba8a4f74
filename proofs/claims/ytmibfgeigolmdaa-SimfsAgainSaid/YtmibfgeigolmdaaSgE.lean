/-
  SimfsAgain: the walk.
-/
import Derived.Test.YtmibfgeigolmdaaSgF
namespace Go.Proofs.Ytmibfgeigolmdaa
open Go.RowKit
set_option maxRecDepth 100000 in
set_option maxHeartbeats 4000000 in
theorem simfsAgain_walk0 (W : World) (A : Option Addr) (n c : Nat) (hn : n ≤ maxLen) (o : Nat → ActAt) (hA : Row 5 (fun i => (o i).cell) W A n) (ho : ∀ i, i < n → ActIn W (o i)) {A1 A2 : Option Addr} {c1 c2 : Nat} {k1 k2 : Sf.Keep} (hk1 : KeepIn W A1 c1 k1) (hk2 : KeepIn W A2 c2 k2) :
    Calls Try.prog 3 #[.slice A n c, .slice A1 k1.n c1, .slice A2 k2.n c2] W fun e w' => e = .returned (.bool true) ∧ Below W.heap.size W w' := by
  have HA := Lib.hid hA; have HO := Lib.hid ho; have HK1 := Lib.hid hk1; have HK2 := Lib.hid hk2
  have HFW := Lib.hid (fun U (hb : Below W.heap.size W U) => fewActs_any A n c hn o U (hA.later hb) (fun i hi => (ho i hi).later hb))
  clear hA ho hk1 hk2
  go_enter Try.func3, Try.ntmps3
  go_wp2_with fail
  refine (works_any W).mono ?_; rintro e w1 ⟨rfl, hb1⟩
  have HB1 := Lib.hid hb1; clear hb1
  go_wp2_with fail
  refine (runs_new HB1.out 10000 (by decide)).mono ?_; rintro e w2 ⟨fb, rfl, hr, hb2⟩
  have HR0 := Lib.hid hr; clear hr hb2
  obtain ⟨base, hbase⟩ : ∃ base, base = w1.heap.size := ⟨_, rfl⟩
  rw [← hbase] at HR0
  clear hbase
  go_wp2_with fail
  refine (HFW.out _ HR0.out.bel).mono ?_; rintro e w3 ⟨rfl, hb3⟩
  have HR1 := Lib.hid (HR0.out.far hb3); clear hb3 HR0
  cases hfew : fewAs o n
  · clear hfew
    go_wp2_with fail
    go_ret
    exact ⟨rfl, HR1.out.bel⟩
  obtain ⟨hn40, hfo⟩ := fewAs_yes hfew
  have HFO := Lib.hid hfo
  clear hfew hfo
  go_wp2_with fail
  go_loopw [10] (fun i wr => ∃ (k : Nat) (S : Sf.St), k ≤ n ∧ i = .int .i64 k ∧ Runs W base fb (300 * k) k S wr) (fun i _ => n - (intOf i).toNat)
  case atStart => exact ⟨0, _, Nat.zero_le _, rfl, HR1.out⟩
  case round =>
    obtain ⟨k, S, hkn, rfl, hr⟩ := hrel
    have HR := Lib.hid hr; clear hr
    have i0 : (0 : Int) ≤ (k : Int) := Int.natCast_nonneg _
    by_cases hlt : k < n
    · have i1 : (k : Int) < (n : Int) := by omega
      have d1 : decide ((k : Int) < (n : Int)) = true := decide_eq_true i1
      obtain ⟨ad, rfl, cc0, cc⟩ := HA.out.at_ HR.out.bel hlt
      have x0 : wr.cell? (ad.add (k * 5)) = some (.int .i64 (o k).k) := cc0 (by omega)
      have x1 : wr.cell? ⟨(ad.add (k * 5)).block, (ad.add (k * 5)).off + 1, none⟩ = some (.string (o k).a) := cc 1 (by omega) (by omega)
      have x2 : wr.cell? ⟨(ad.add (k * 5)).block, (ad.add (k * 5)).off + 2, none⟩ = some (.string (o k).b) := cc 2 (by omega) (by omega)
      have x3 : wr.cell? ⟨(ad.add (k * 5)).block, (ad.add (k * 5)).off + 3, none⟩ = some (.int .i64 (o k).n) := cc 3 (by omega) (by omega)
      have x4 : wr.cell? ⟨(ad.add (k * 5)).block, (ad.add (k * 5)).off + 4, none⟩ = some (.slice (o k).ka (o k).kp.n (o k).kc) := cc 4 (by omega) (by omega)
      have HC := Lib.hid (HR.out.act (by omega) (by omega) (HFO.out k hlt) (HO.out k hlt))
      have hk1 : k + 1 ≤ n := hlt
      have HKL := Lib.hid hk1
      clear cc0 cc HR hkn hk1
      go_wp2_with fail
      refine HC.out.mono ?_; rintro e w5 ⟨y, -, rfl, hr5, -⟩
      have HR5 := Lib.hid hr5; clear hr5 x0 x1 x2 x3 x4 HC
      go_wp2_with fail
      go_roundw
      case rel => exact ⟨k + 1, _, HKL.out, by go_num, by rw [Nat.mul_succ]; exact HR5.out⟩
      case measure => simp [intOf]; omega
    · have d1 : decide ((k : Int) < (n : Int)) = false := decide_eq_false (by omega)
      obtain rfl : k = n := by omega
      clear hlt hkn i0
      have HR := Lib.hid (HR.out.mono (B2 := 12000) (N2 := 40) (by omega) hn40)
      clear HFO HO HA HFW HR1 d1
      go_wp2_with fail
      refine (HR.out.crash (by decide) (by decide) (HR.out.keep HK1.out)).mono ?_; rintro e w5 ⟨rfl, hr, -, hks⟩
      have hw5 := Sf.crash_whole S k1 hks
      have hdd : (S.crash k1).dead = false := rfl
      generalize S.crash k1 = S1 at *
      have HW5 := Lib.hid hw5; have R5 := Lib.hid hr; have HDD := Lib.hid hdd
      clear hr hw5 hks HR hdd
      go_wp2_with fail
      refine (R5.out.list).mono ?_; rintro e w6 ⟨A6, c6, rfl, ht6, hb6⟩
      have R6 := Lib.hid (R5.out.far hb6)
      have hlf := R5.out.few
      have HAG : Hid (∀ k i, i < (Sf.list S1.names).length → (S1.crash k).read (bs ((Sf.list S1.names).getD i [])) = ((S1.read (bs ((Sf.list S1.names).getD i []))).1, 0)) := Lib.hid (fun k i hi => Sf.again_read HW5.out k HDD.out R6.out.ok.nice R6.out.keys hi)
      have HLR : Hid (∀ i, i < (Sf.list S1.names).length → (bs ((Sf.list S1.names).getD i [])).size ≤ maxLen) := Lib.hid (fun i hi => by
        obtain ⟨x, -, h⟩ := Sf.list_at R6.out.ok.nice R6.out.keys hi
        exact Nat.le_trans h (by decide))
      obtain ⟨l, hl⟩ : ∃ l, l = Sf.list S1.names := ⟨_, rfl⟩
      rw [← hl] at ht6 hlf HAG HLR ⊢
      have HLL := Lib.hid hl; have HT6 := Lib.hid (ht6.from_ R5.out.bel.size)
      obtain ⟨m, hm⟩ : ∃ m, m = l.length := ⟨_, rfl⟩
      have HLM := Lib.hid hm
      rw [← hm] at HT6 hlf HAG HLR ⊢
      have HRW6 : Hid (Row 1 (tx l) w6 A6 m) := Lib.hid (by rw [hm]; exact HT6.out.row)
      clear ht6 hb6 hl R5 hm
      go_wp2_with fail
      go_loopw [12, 13, 14, 15] (fun vb i _ _ wr => ∃ (j : Nat) (A7 : Option Addr) (c7 : Nat), j ≤ m ∧ i = .int .i64 j ∧ vb = .slice A7 j c7 ∧ Txs wr w6.heap.size (.slice A7 j c7) (reads S1 l j) ∧ Below w6.heap.size w6 wr) (fun _ i _ _ _ => m - (intOf i).toNat)
      case atStart => exact ⟨0, none, 0, Nat.zero_le _, rfl, rfl, Txs.nil _ _, Below.refl _ _⟩
      case round =>
        obtain ⟨j, A7, c7, hjm, rfl, rfl, ht7, hb7⟩ := hrel
        have HT7 := Lib.hid ht7; have HB7 := Lib.hid hb7
        clear ht7 hb7
        have i0 : (0 : Int) ≤ (j : Int) := Int.natCast_nonneg _
        by_cases hlt : j < m
        · have i1 : (j : Int) < (m : Int) := by omega
          have d1 : decide ((j : Int) < (m : Int)) = true := decide_eq_true i1
          obtain ⟨ad, rfl, x0, -⟩ := HRW6.out.at_ HB7.out hlt
          have x0 := x0 (by omega)
          rw [Nat.mul_one, show tx l j 0 = .string (bs (l.getD j [])) from rfl] at x0
          have HRD := Lib.hid ((R6.out.far HB7.out).read (bs (l.getD j [])) (HLR.out j hlt))
          have hj1 : j + 1 ≤ m := hlt
          have HJ1 := Lib.hid hj1
          have HRS := Lib.hid (reads_succ S1 l j)
          have hrl : (reads S1 l j).length = j := reads_length S1 l j
          have HRL := Lib.hid hrl
          clear hjm hj1 hrl
          generalize (S1.read (bs (l.getD j []))).1 = tv at *
          generalize (S1.read (bs (l.getD j []))).2 = te at *
          go_wp2_with fail
          refine HRD.out.mono ?_; rintro e w8 ⟨rfl, hb8⟩
          have HB8 := Lib.hid (below_step HB7.out hb8)
          have HT8 := Lib.hid (HT7.out.far hb8)
          clear hb8 x0 HRD HB7 HT7
          have HZ8 : Hid (w6.heap.size ≤ w8.heap.size) := Lib.hid HB8.out.size
          have hba := (Below.refl w8.heap.size w8).alloc (Nat.le_refl _) (.cells #[.string tv] 9)
          have HTA := Lib.hid (HT8.out.far hba)
          have HBA := Lib.hid (below_step HB8.out hba)
          have HCA : Hid ((w8.alloc (.cells #[.string tv] 9)).heap[w8.heap.size]? = some (.cells #[.string (bs tv.data.toList)] 9 (0, 0))) := Lib.hid (by rw [Sf.bs_data]; exact heap_alloc_new w8 _)
          clear hba
          go_wp2_with (at_builtin; (refine wpList_append_text _ rfl _ _ rfl w6.heap.size _ (reads S1 l j) rfl HTA.out w8.heap.size tv.data.toList _ rfl HCA.out (by rw [HRL.out]; have := HJ1.out; omega) HBA.out.size ?_); intro A9 c9 w9 ht9 hg9; rw [HRL.out] at ht9 ⊢; have HT9 := Lib.hid ht9; have HB9 := Lib.hid (HBA.out.grown hg9 HBA.out.size (fun r e => HTA.out.lo r e)); clear ht9 hg9)
          go_roundw
          case rel => exact ⟨j + 1, A9, c9, HJ1.out, by go_num, rfl, by rw [HRS.out]; exact HT9.out, HB9.out⟩
          case measure => simp [intOf]; omega
        · have d1 : decide ((j : Int) < (m : Int)) = false := decide_eq_false (by omega)
          obtain rfl : j = m := by omega
          clear hlt hjm i0
          go_wp2_with fail
          have R8 := Lib.hid (R6.out.far HB7.out)
          refine (Steps_any R8.out.fs).mono ?_; rintro e w8 ⟨rfl, rfl⟩
          go_wp2_with fail
          refine (R8.out.crash (by decide) (by decide) (R8.out.keep HK2.out)).mono ?_; rintro e w9 ⟨rfl, hr, hst, -⟩
          have R9 := Lib.hid hr
          have HNM : Hid ((S1.crash k2).names = S1.names) := Lib.hid (Sf.whole_crash HW5.out k2).1
          have HAG2 := Lib.hid (HAG.out k2)
          have HST2 : Hid ((S1.crash k2).steps = S1.steps) := Lib.hid rfl
          have HDD2 : Hid ((S1.crash k2).dead = false) := Lib.hid rfl
          have HTN := Lib.hid ((HT6.out.far HB7.out).stays hst.st)
          have HTB := Lib.hid (HT7.out.stays hst.st)
          generalize S1.crash k2 = S2 at *
          clear hr hst R8 HT6 HT7 HAG d1 HB7 HRW6
          go_wp2_with fail
          go_loopw [17, 18, 19] (fun i _ _ wr => ∃ q : Nat, q ≤ j ∧ i = .int .i64 q ∧ Below w9.heap.size w9 wr) (fun i _ _ _ => j - (intOf i).toNat)
          case atStart => exact ⟨0, Nat.zero_le _, rfl, Below.refl _ _⟩
          case round =>
            obtain ⟨q, hqj, rfl, hbq⟩ := hrel
            have HBQ := Lib.hid hbq
            clear hbq
            have i0 : (0 : Int) ≤ (q : Int) := Int.natCast_nonneg _
            by_cases hlt : q < j
            · have i1 : (q : Int) < (j : Int) := by omega
              have d1 : decide ((q : Int) < (j : Int)) = true := decide_eq_true i1
              have hrn := HTN.out.row
              rw [← HLM.out] at hrn
              have hrb := HTB.out.row
              rw [reads_length] at hrb
              obtain ⟨ad, rfl, x0, -⟩ := hrn.at_ HBQ.out hlt
              obtain ⟨ad2, rfl, y0, -⟩ := hrb.at_ HBQ.out hlt
              have x0 := x0 (by omega)
              have y0 := y0 (by omega)
              rw [Nat.mul_one, show tx l q 0 = .string (bs (l.getD q [])) from rfl] at x0
              rw [Nat.mul_one, reads_at S1 l hlt] at y0
              have HRD := Lib.hid ((R9.out.far HBQ.out).read (bs (l.getD q [])) (HLR.out q hlt))
              rw [HAG2.out q hlt] at HRD
              have hq1 : q + 1 ≤ j := hlt
              have HQ1 := Lib.hid hq1
              have HY : Hid (∀ U, Below wr.heap.size wr U → U.cell? (ad2.add q) = some (.string (S1.read (bs (l.getD q []))).1)) := Lib.hid (fun U hU => cell_keep y0 hU)
              clear hqj hq1 hrn hrb y0
              generalize (S1.read (bs (l.getD q []))).1 = tv at *
              have b0 : (tv.toList == tv.toList) = true := by simp
              go_wp2_with fail
              refine HRD.out.mono ?_; rintro e w10 ⟨rfl, hb10⟩
              have y0 := HY.out w10 hb10
              have HB10 := Lib.hid (below_step HBQ.out hb10)
              clear hb10 x0 HRD HBQ HY
              go_wp2_with fail
              go_roundw
              case rel => exact ⟨q + 1, HQ1.out, by go_num, HB10.out⟩
              case measure => simp [intOf]; omega
            · have d1 : decide ((q : Int) < (j : Int)) = false := decide_eq_false (by omega)
              obtain rfl : q = j := by omega
              clear hlt hqj i0
              have R10 := Lib.hid (R9.out.far HBQ.out)
              have HTN2 := Lib.hid (HTN.out.far HBQ.out)
              clear R9 HTN HTB HBQ
              go_wp2_with fail
              refine (R10.out.list).mono ?_; rintro e w11 ⟨A11, c11, rfl, ht11, hb11⟩
              rw [HNM.out, ← HLL.out] at ht11 ⊢
              have R11 := Lib.hid (R10.out.far hb11)
              have HTX := Lib.hid (Texts_any A11 A6 c11 c6 l l (by rw [← HLM.out]; omega) (by rw [← HLM.out]; omega) w11 ht11.row (HTN2.out.far hb11).row)
              rw [← HLM.out] at HTX ⊢
              rw [decide_eq_true (show l = l from rfl)] at HTX
              clear ht11 hb11 R10 HTN2
              go_wp2_with fail
              refine HTX.out.mono ?_; rintro e w12 ⟨rfl, hb12⟩
              have R12 := Lib.hid (R11.out.far hb12)
              clear hb12 R11 HTX
              go_wp2_with fail
              refine (Steps_any R12.out.fs).mono ?_; rintro e w13 ⟨rfl, rfl⟩
              rw [HST2.out]
              go_wp2_with fail
              refine (Dead_any R12.out.fs).mono ?_; rintro e w14 ⟨rfl, rfl⟩
              rw [HDD2.out]
              go_wp2_with fail
              go_ret
              exact ⟨rfl, R12.out.bel⟩
set_option maxRecDepth 100000 in
theorem simfsAgain_walk {H : Type} {enc : TypeId × Value → H} {r0 r1 r2 : Reach} {b0 b1 b2 : Nat} {v0 v1 v2 : Value} {d0 d1 d2 : DataW H} {p0 p1 p2 : List MemPlace} (w : World)
    (o0 : Value.okWide Try.prog w r0 b0 22 v0) (h0 : DataW.Trod enc Try.prog w 0 (fun _ => true) true 22 v0 d0 p0)
    (o1 : Value.okWide Try.prog w r1 b1 23 v1) (h1 : DataW.Trod enc Try.prog w 0 (fun _ => true) true 23 v1 d1 p1)
    (o2 : Value.okWide Try.prog w r2 b2 23 v2) (h2 : DataW.Trod enc Try.prog w 0 (fun _ => true) true 23 v2 d2 p2) :
    Calls Try.prog 3 #[v0, v1, v2] w fun e w' => e = .returned (.bool true) ∧ Below w.heap.size w w' := by
  obtain ⟨A, n, c, o, rfl, hn, hA, ho⟩ := open_acts o0 h0
  obtain ⟨A1, c1, k1, rfl, hk1⟩ := open_keep o1 h1
  obtain ⟨A2, c2, k2, rfl, hk2⟩ := open_keep o2 h2
  exact simfsAgain_walk0 w A n c hn o hA ho hk1 hk2
end Go.Proofs.Ytmibfgeigolmdaa
