/-
  SimfsWhole: the walk.
-/
import Derived.Test.YtmibfgeigolmdaaSgG
namespace Go.Proofs.Ytmibfgeigolmdaa
open Go.RowKit
set_option maxRecDepth 100000 in
set_option maxHeartbeats 4000000 in
theorem simfsWhole_walk0 (W : World) (A : Option Addr) (n c : Nat) (hn : n ≤ maxLen) (o : Nat → ActAt) (hA : Row 5 (fun i => (o i).cell) W A n) (ho : ∀ i, i < n → ActIn W (o i)) {A1 : Option Addr} {c1 : Nat} {kp : Sf.Keep} (hk1 : KeepIn W A1 c1 kp) :
    Calls Try.prog 5 #[.slice A n c, .slice A1 kp.n c1] W fun e w' => e = .returned (.bool true) ∧ Below W.heap.size W w' := by
  have HA := Lib.hid hA; have HO := Lib.hid ho; have HK1 := Lib.hid hk1
  have HFW := Lib.hid (fun U (hb : Below W.heap.size W U) => fewActs_any A n c hn o U (hA.later hb) (fun i hi => (ho i hi).later hb))
  clear hA ho hk1
  have h0n : (0 : Int) ≤ (kp.n : Int) := Int.natCast_nonneg _
  go_enter Try.func5, Try.ntmps5
  go_wp2_with fail
  refine (works_any W).mono ?_; rintro e w1 ⟨rfl, hb1⟩
  have HB1 := Lib.hid hb1; clear hb1
  go_wp2_with fail
  refine (runs_new HB1.out 10000 (by decide)).mono ?_; rintro e w2 ⟨fb, rfl, hr, hb2⟩
  have HR0 := Lib.hid hr; clear hr hb2
  obtain ⟨base, hbase⟩ : ∃ base, base = w1.heap.size := ⟨_, rfl⟩
  rw [← hbase] at HR0
  clear hbase
  go_wp2_with fail
  refine (HFW.out _ HR0.out.bel).mono ?_; rintro e w3 ⟨rfl, hb3⟩
  have HR1 := Lib.hid (HR0.out.far hb3); clear hb3 HR0
  have hkd : decide ((20 : Int) < (kp.n : Int)) = decide (20 < kp.n) := by rw [decide_eq_decide]; omega
  cases hfew : fewAs o n
  · clear hfew
    by_cases hkn : 20 < kp.n
    · go_wp2_with fail
      go_ret
      exact ⟨rfl, HR1.out.bel⟩
    · go_wp2_with fail
      go_ret
      exact ⟨rfl, HR1.out.bel⟩
  obtain ⟨hn40, hfo⟩ := fewAs_yes hfew
  have HFO := Lib.hid hfo
  clear hfew hfo
  by_cases hkn : 20 < kp.n
  · rw [decide_eq_true hkn] at hkd
    go_wp2_with fail
    go_ret
    exact ⟨rfl, HR1.out.bel⟩
  rw [decide_eq_false hkn] at hkd
  go_wp2_with fail
  go_loopw [8] (fun i wr => ∃ (k : Nat) (S : Sf.St), k ≤ n ∧ i = .int .i64 k ∧ Runs W base fb (300 * k) k S wr) (fun i _ => n - (intOf i).toNat)
  case atStart => exact ⟨0, _, Nat.zero_le _, rfl, HR1.out⟩
  case round =>
    obtain ⟨k, S, hkn, rfl, hr⟩ := hrel
    have HR := Lib.hid hr; clear hr
    have i0 : (0 : Int) ≤ (k : Int) := Int.natCast_nonneg _
    by_cases hlt : k < n
    · have i1 : (k : Int) < (n : Int) := by omega
      have d1 : decide ((k : Int) < (n : Int)) = true := decide_eq_true i1
      obtain ⟨ad, rfl, cc0, cc⟩ := HA.out.at_ HR.out.bel hlt
      have x0 : wr.cell? (ad.add (k * 5)) = some (.int .i64 (o k).k) := cc0 (by omega)
      have x1 : wr.cell? ⟨(ad.add (k * 5)).block, (ad.add (k * 5)).off + 1, none⟩ = some (.string (o k).a) := cc 1 (by omega) (by omega)
      have x2 : wr.cell? ⟨(ad.add (k * 5)).block, (ad.add (k * 5)).off + 2, none⟩ = some (.string (o k).b) := cc 2 (by omega) (by omega)
      have x3 : wr.cell? ⟨(ad.add (k * 5)).block, (ad.add (k * 5)).off + 3, none⟩ = some (.int .i64 (o k).n) := cc 3 (by omega) (by omega)
      have x4 : wr.cell? ⟨(ad.add (k * 5)).block, (ad.add (k * 5)).off + 4, none⟩ = some (.slice (o k).ka (o k).kp.n (o k).kc) := cc 4 (by omega) (by omega)
      have HC := Lib.hid (HR.out.act (by omega) (by omega) (HFO.out k hlt) (HO.out k hlt))
      have hk1 : k + 1 ≤ n := hlt
      have HKL := Lib.hid hk1
      clear cc0 cc HR hkn hk1
      go_wp2_with fail
      refine HC.out.mono ?_; rintro e w5 ⟨y, -, rfl, hr5, -⟩
      have HR5 := Lib.hid hr5; clear hr5 x0 x1 x2 x3 x4 HC
      go_wp2_with fail
      go_roundw
      case rel => exact ⟨k + 1, _, HKL.out, by go_num, by rw [Nat.mul_succ]; exact HR5.out⟩
      case measure => simp [intOf]; omega
    · have d1 : decide ((k : Int) < (n : Int)) = false := decide_eq_false (by omega)
      obtain rfl : k = n := by omega
      clear hlt hkn i0
      have HR := Lib.hid (HR.out.mono (B2 := 12000) (N2 := 40) (by omega) hn40)
      clear HFO HO HA HFW HR1 d1
      go_wp2_with fail
      refine (HR.out.fuse (-1)).mono ?_; rintro e w5 ⟨rfl, hr, -⟩
      have hfu : ({ S with fuse := Sf.fuseOf (-1) } : Sf.St).fuse = -1 := by show Sf.fuseOf (-1) = -1; decide
      generalize ({ S with fuse := Sf.fuseOf (-1) } : Sf.St) = S1 at *
      have HFU := Lib.hid hfu; have R5 := Lib.hid hr
      clear hr HR hfu
      go_wp2_with fail
      refine (R5.out.list).mono ?_; rintro e w6 ⟨A6, c6, rfl, ht6, hb6⟩
      have R6 := Lib.hid (R5.out.far hb6)
      have hlf := R5.out.few
      have HLR : Hid (∀ i, i < (Sf.list S1.names).length → ∃ x, Sf.look S1.names (bs ((Sf.list S1.names).getD i [])) = some x ∧ (bs ((Sf.list S1.names).getD i [])).size ≤ maxLen) := Lib.hid (fun i hi => by
        obtain ⟨x, hx, h⟩ := Sf.list_at R6.out.ok.nice R6.out.keys hi
        exact ⟨x, hx, Nat.le_trans h (by decide)⟩)
      have HAG : Hid (∀ T j i, Sf.Synced S1 T (Sf.list S1.names) j → (Sf.list S1.names).length ≤ j → S1.dead = false → i < (Sf.list S1.names).length → (T.tick.dir.crash kp).read (bs ((Sf.list S1.names).getD i [])) = ((S1.read (bs ((Sf.list S1.names).getD i []))).1, 0)) := Lib.hid (fun T j i h hj hd hi => h.again hj R6.out.keys R6.out.ok.nice hd kp hi)
      have HWH : Hid (∀ T j, Sf.Synced S1 T (Sf.list S1.names) j → (Sf.list S1.names).length ≤ j → S1.dead = false → (T.tick.dir.crash kp).names = S1.names) := Lib.hid (fun T j h hj hd => (Sf.whole_crash (h.whole hj R6.out.keys hd) kp).1.trans h.nam)
      obtain ⟨l, hl⟩ : ∃ l, l = Sf.list S1.names := ⟨_, rfl⟩
      rw [← hl] at ht6 hlf HLR HAG HWH ⊢
      have HLL := Lib.hid hl
      have HNB := Lib.hid ht6.hi
      have HT6 := Lib.hid (ht6.from_ R5.out.bel.size)
      obtain ⟨m, hm⟩ : ∃ m, m = l.length := ⟨_, rfl⟩
      have HLM := Lib.hid hm
      rw [← hm] at HT6 HNB hlf HLR HAG HWH ⊢
      clear ht6 hb6 hl R5 hm
      go_wp2_with fail
      go_loopw [10, 11, 12, 13] (fun vb i _ _ wr => ∃ (j : Nat) (A7 : Option Addr) (c7 : Nat) (T : Sf.St), j ≤ m ∧ i = .int .i64 j ∧ vb = .slice A7 j c7 ∧ Runs W base fb 12000 (40 + j) T wr ∧ Sf.Synced S1 T l j ∧ Txs wr W.heap.size (.slice A6 m c6) l ∧ Txs wr w6.heap.size (.slice A7 j c7) (reads S1 l j) ∧ w6.heap.size ≤ wr.heap.size) (fun _ i _ _ _ => m - (intOf i).toNat)
      case atStart => exact ⟨0, none, 0, S1, Nat.zero_le _, rfl, rfl, R6.out, Sf.Synced.zero _ _, HT6.out, Txs.nil _ _, Nat.le_refl _⟩
      case round =>
        obtain ⟨j, A7, c7, T, hjm, rfl, rfl, hr7, hs7, hn7, ht7, hz7⟩ := hrel
        have R7 := Lib.hid hr7; have HS7 := Lib.hid hs7; have HN7 := Lib.hid hn7; have HT7 := Lib.hid ht7; have HZ7 := Lib.hid hz7
        clear hr7 hs7 hn7 ht7 hz7 HT6
        have i0 : (0 : Int) ≤ (j : Int) := Int.natCast_nonneg _
        by_cases hlt : j < m
        · have i1 : (j : Int) < (m : Int) := by omega
          have d1 : decide ((j : Int) < (m : Int)) = true := decide_eq_true i1
          have hrn := HN7.out.row
          rw [← HLM.out] at hrn
          obtain ⟨ad, hAd, x0, -⟩ := hrn.at_ (Below.refl _ _) hlt
          subst hAd
          have x0 := x0 (by omega)
          rw [Nat.mul_one, show tx l j 0 = .string (bs (l.getD j [])) from rfl] at x0
          obtain ⟨x, hx, hxs⟩ := HLR.out j hlt
          have HSY := Lib.hid (R7.out.sync (by omega) (bs (l.getD j [])) hxs)
          have HS8 := Lib.hid (HS7.out.succ HFU.out hx)
          have hj1 : j + 1 ≤ m := hlt
          have HJ1 := Lib.hid hj1
          have HJL := Lib.hid hlt
          have HXS := Lib.hid hxs
          have HRS := Lib.hid (reads_succ S1 l j)
          have hrl : (reads S1 l j).length = j := reads_length S1 l j
          have HRL := Lib.hid hrl
          have HRE : Hid (∀ T2, Sf.Synced S1 T2 l (j + 1) → T2.read (bs (l.getD j [])) = ((S1.read (bs (l.getD j []))).1, (S1.read (bs (l.getD j []))).2)) := Lib.hid (fun T2 h => h.read _)
          clear hjm hj1 hrl hrn hx hxs
          generalize (S1.read (bs (l.getD j []))).1 = tv at *
          generalize (S1.read (bs (l.getD j []))).2 = te at *
          generalize (T.sync (bs (l.getD j []))).1 = T2 at *
          generalize (T.sync (bs (l.getD j []))).2 = se at *
          go_wp2_with fail
          refine HSY.out.mono ?_; rintro e w7 ⟨rfl, hr, hst⟩
          have R8 := Lib.hid hr
          have HN8 := Lib.hid (HN7.out.stays hst.st)
          have HT8 := Lib.hid (HT7.out.stays hst.st)
          have HZ8 := Lib.hid (Nat.le_trans HZ7.out hst.sz)
          clear hr hst x0 HSY
          have hrn := HN8.out.row
          rw [← HLM.out] at hrn
          obtain ⟨ad2, hAd, x0, -⟩ := hrn.at_ (Below.refl _ _) HJL.out
          cases hAd
          have x0 := x0 (by omega)
          rw [Nat.mul_one, show tx l j 0 = .string (bs (l.getD j [])) from rfl] at x0
          have HRD := Lib.hid (R8.out.read (bs (l.getD j [])) HXS.out)
          rw [HRE.out T2 HS8.out] at HRD
          clear hrn HRE
          go_wp2_with fail
          refine HRD.out.mono ?_; rintro e w8 ⟨rfl, hb8⟩
          have R9 := Lib.hid (R8.out.far hb8)
          have HN9 := Lib.hid (HN8.out.far hb8)
          have HT9 := Lib.hid (HT8.out.far hb8)
          have HZ9 : Hid (w6.heap.size ≤ w8.heap.size) := Lib.hid (Nat.le_trans HZ8.out hb8.size)
          clear hb8 x0 HRD R8 HN8 HT8 HZ8 R7 HN7 HT7 HZ7 HS7
          have hba := (Below.refl w8.heap.size w8).alloc (Nat.le_refl _) (.cells #[.string tv] 9)
          have RA := Lib.hid (R9.out.far hba)
          have HNA := Lib.hid (HN9.out.far hba)
          have HTA := Lib.hid (HT9.out.far hba)
          have HZA := Lib.hid (Nat.le_trans HZ9.out hba.size)
          have HCA : Hid ((w8.alloc (.cells #[.string tv] 9)).heap[w8.heap.size]? = some (.cells #[.string (bs tv.data.toList)] 9 (0, 0))) := Lib.hid (by rw [Sf.bs_data]; exact heap_alloc_new w8 _)
          clear hba
          go_wp2_with (at_builtin; (refine wpList_append_text _ rfl _ _ rfl w6.heap.size _ (reads S1 l j) rfl HTA.out w8.heap.size tv.data.toList _ rfl HCA.out (by rw [HRL.out]; have := HJ1.out; omega) HZA.out ?_); intro A9 c9 w9 ht9 hg9; rw [HRL.out] at ht9 ⊢; have HTB := Lib.hid ht9; have RB := Lib.hid (RA.out.kept hg9 (T := 9) (by decide) HTA.out.cells (fun r e => Nat.le_trans R6.out.bel.size (HTA.out.lo r e))); have HNC := Lib.hid (HNA.out.kept hg9 (fun r e e2 => absurd (HNB.out r e2) (Nat.not_lt.2 (HTA.out.lo r e)))); have HZB := Lib.hid (Nat.le_trans HZA.out hg9.size); clear ht9 hg9)
          go_roundw
          case rel => exact ⟨j + 1, A9, c9, T2, HJ1.out, by go_num, rfl, RB.out, HS8.out, HNC.out, by rw [HRS.out]; exact HTB.out, HZB.out⟩
          case measure => simp [intOf]; omega
        · have d1 : decide ((j : Int) < (m : Int)) = false := decide_eq_false (by omega)
          obtain rfl : j = m := by omega
          have hj64 := hlf
          clear hlt hjm i0
          have HDI := Lib.hid (R7.out.dir (by omega))
          have hds := HS7.out.dead
          have hfs := HS7.out.fuse
          go_wp2_with fail
          refine HDI.out.mono ?_; rintro e w8 ⟨rfl, hr, hst⟩
          have HTN := Lib.hid (HN7.out.stays hst.st)
          have HTB := Lib.hid (HT7.out.stays hst.st)
          cases hd : S1.dead
          · have hdd := Sf.dir_yes (hds.trans hd) (by rw [hfs, HFU.out]; decide)
            rw [hdd] at hr ⊢
            have R8 := Lib.hid hr
            have HAG2 := Lib.hid (fun i hi => HAG.out T j i HS7.out (Nat.le_refl _) hd hi)
            have HWH2 := Lib.hid (HWH.out T j HS7.out (Nat.le_refl _) hd)
            clear hr hst hd hdd hds hfs HAG HWH R7 HS7 HN7 HT7 HZ7 HDI
            generalize T.tick.dir = T2 at *
            go_wp2_with fail
            refine (R8.out.crash (by omega) (by decide) (R8.out.keep HK1.out)).mono ?_; rintro e w9 ⟨rfl, hr, hst, -⟩
            have R9 := Lib.hid hr
            have HTN2 := Lib.hid (HTN.out.stays hst.st)
            have HTB2 := Lib.hid (HTB.out.stays hst.st)
            generalize T2.crash kp = S2 at *
            clear hr hst R8 HTN HTB d1
            go_wp2_with fail
            go_loopw [14, 15, 16] (fun i _ _ wr => ∃ q : Nat, q ≤ j ∧ i = .int .i64 q ∧ Below w9.heap.size w9 wr) (fun i _ _ _ => j - (intOf i).toNat)
            case atStart => exact ⟨0, Nat.zero_le _, rfl, Below.refl _ _⟩
            case round =>
              obtain ⟨q, hqj, rfl, hbq⟩ := hrel
              have HBQ := Lib.hid hbq
              clear hbq
              have i0 : (0 : Int) ≤ (q : Int) := Int.natCast_nonneg _
              by_cases hlt : q < j
              · have i1 : (q : Int) < (j : Int) := by omega
                have d1 : decide ((q : Int) < (j : Int)) = true := decide_eq_true i1
                have hrn := HTN2.out.row
                rw [← HLM.out] at hrn
                have hrb := HTB2.out.row
                rw [reads_length] at hrb
                obtain ⟨ad, rfl, x0, -⟩ := hrn.at_ HBQ.out hlt
                obtain ⟨ad2, rfl, y0, -⟩ := hrb.at_ HBQ.out hlt
                have x0 := x0 (by omega)
                have y0 := y0 (by omega)
                rw [Nat.mul_one, show tx l q 0 = .string (bs (l.getD q [])) from rfl] at x0
                rw [Nat.mul_one, reads_at S1 l hlt] at y0
                obtain ⟨x, -, hxs⟩ := HLR.out q hlt
                have HRD := Lib.hid ((R9.out.far HBQ.out).read (bs (l.getD q [])) hxs)
                rw [HAG2.out q hlt] at HRD
                have hq1 : q + 1 ≤ j := hlt
                have HQ1 := Lib.hid hq1
                have HY : Hid (∀ U, Below wr.heap.size wr U → U.cell? (ad2.add q) = some (.string (S1.read (bs (l.getD q []))).1)) := Lib.hid (fun U hU => cell_keep y0 hU)
                clear hqj hq1 hrn hrb y0 hxs
                generalize (S1.read (bs (l.getD q []))).1 = tv at *
                have b0 : (tv.toList == tv.toList) = true := by simp
                go_wp2_with fail
                refine HRD.out.mono ?_; rintro e w10 ⟨rfl, hb10⟩
                have y0 := HY.out w10 hb10
                have HB10 := Lib.hid (below_step HBQ.out hb10)
                clear hb10 x0 HRD HBQ HY
                go_wp2_with fail
                go_roundw
                case rel => exact ⟨q + 1, HQ1.out, by go_num, HB10.out⟩
                case measure => simp [intOf]; omega
              · have d1 : decide ((q : Int) < (j : Int)) = false := decide_eq_false (by omega)
                obtain rfl : q = j := by omega
                clear hlt hqj i0
                have R10 := Lib.hid (R9.out.far HBQ.out)
                have HTN3 := Lib.hid (HTN2.out.far HBQ.out)
                clear R9 HTN2 HTB2 HBQ
                go_wp2_with fail
                refine (R10.out.list).mono ?_; rintro e w11 ⟨A11, c11, rfl, ht11, hb11⟩
                rw [HWH2.out, ← HLL.out] at ht11 ⊢
                have R11 := Lib.hid (R10.out.far hb11)
                have HTX := Lib.hid (Texts_any A11 A6 c11 c6 l l (by rw [← HLM.out]; omega) (by rw [← HLM.out]; omega) w11 ht11.row (HTN3.out.far hb11).row)
                rw [← HLM.out] at HTX ⊢
                rw [decide_eq_true (show l = l from rfl)] at HTX
                clear ht11 hb11 R10 HTN3
                go_wp2_with fail
                refine HTX.out.mono ?_; rintro e w12 ⟨rfl, hb12⟩
                have R12 := Lib.hid (R11.out.far hb12)
                clear hb12 R11 HTX
                go_wp2_with fail
                go_ret
                exact ⟨rfl, R12.out.bel⟩
          · have e13 : T.dirDo = (T, 13) := by
              unfold Sf.St.dirDo
              rw [hds, hd]
              rfl
            rw [e13] at hr ⊢
            have R8 := Lib.hid hr
            have HDT := Lib.hid (hds.trans hd)
            clear hr hst hd hds hfs e13 HAG HWH R7 HS7 HN7 HT7 HZ7 HDI
            go_wp2_with fail
            refine (Dead_any R8.out.fs).mono ?_; rintro e w9 ⟨rfl, rfl⟩
            rw [HDT.out]
            go_wp2_with fail
            go_ret
            exact ⟨rfl, R8.out.bel⟩
set_option maxRecDepth 100000 in
theorem simfsWhole_walk {H : Type} {enc : TypeId × Value → H} {r0 r1 : Reach} {b0 b1 : Nat} {v0 v1 : Value} {d0 d1 : DataW H} {p0 p1 : List MemPlace} (w : World)
    (o0 : Value.okWide Try.prog w r0 b0 22 v0) (h0 : DataW.Trod enc Try.prog w 0 (fun _ => true) true 22 v0 d0 p0)
    (o1 : Value.okWide Try.prog w r1 b1 23 v1) (h1 : DataW.Trod enc Try.prog w 0 (fun _ => true) true 23 v1 d1 p1) :
    Calls Try.prog 5 #[v0, v1] w fun e w' => e = .returned (.bool true) ∧ Below w.heap.size w w' := by
  obtain ⟨A, n, c, o, rfl, hn, hA, ho⟩ := open_acts o0 h0
  obtain ⟨A1, c1, k1, rfl, hk1⟩ := open_keep o1 h1
  exact simfsWhole_walk0 w A n c hn o hA ho hk1
end Go.Proofs.Ytmibfgeigolmdaa
