import Derived.Test.YtfibapfehgglhaaGreatDoorDkC
/-
  Sweep and Repair.
-/
namespace Go.Proofs.YtfibapfehgglhaaGreatDoor
open Go.RowKit
namespace Sf
/-- all names but those to be kept are removed, one by one: how many, and what erred -/
def sweepTo (keep : List (List UInt8)) : List (List UInt8) → St → Nat → St × Nat × Int
  | [], S, n => (S, n, 0)
  | k :: l, S, n => if k ∈ keep then sweepTo keep l S n else if (S.remove (bs k)).2 = 0 then sweepTo keep l (S.remove (bs k)).1 (n + 1) else ((S.remove (bs k)).1, n, (S.remove (bs k)).2)
def St.sweep (S : St) (keep : List (List UInt8)) : St × Nat × Int :=
  let r := sweepTo keep (list S.names) S 0
  if r.2.2 = 0 then (if r.2.1 = 0 then (r.1, 0, 0) else (r.1.dirDo.1, r.2.1, r.1.dirDo.2)) else r
def St.repair (S : St) (s : ByteArray) (n : Int) : St × Int := if (S.read s).2 = 0 ∧ ((S.read s).1.size : Int) = n then (S, 0) else bd (S.cut s n) fun T => T.sync s
theorem drop_getD (l : List (List UInt8)) {j : Nat} (h : j < l.length) : l.drop j = l.getD j [] :: l.drop (j + 1) := by
  rw [List.drop_eq_getElem_cons h]
  simp [List.getD, h]
end Sf
set_option maxRecDepth 100000 in
set_option maxHeartbeats 2000000 in
theorem Sweep_any {W : World} {base fb B N : Nat} {S : Sf.St} {wr : World} (h : Runs W base fb B N S wr) (hN : N ≤ 900) (A : Option Addr) (c : Nat) (keep : List (List UInt8)) (hkl : keep.length ≤ 1000) (hk : ∀ U, Below W.heap.size W U → Moves wr U → Row 1 (tx keep) U A keep.length) :
    Calls Tryz.prog 50 #[.pointer (some ⟨fb, 0, none⟩), .slice A keep.length c] wr fun e w' => e = .returned (.tuple #[.int .i64 ((S.sweep keep).2.1 : Nat), .int .i64 (S.sweep keep).2.2]) ∧ Runs W base fb B (N + 65) (S.sweep keep).1 w' ∧ Moves wr w' := by
  have HL := Lib.hid h.list
  have HR := Lib.hid h; have HK := Lib.hid hk
  have hlf := h.few
  have HSW : Hid (S.sweep keep = if (Sf.sweepTo keep (Sf.list S.names) S 0).2.2 = 0 then (if (Sf.sweepTo keep (Sf.list S.names) S 0).2.1 = 0 then ((Sf.sweepTo keep (Sf.list S.names) S 0).1, 0, 0) else ((Sf.sweepTo keep (Sf.list S.names) S 0).1.dirDo.1, (Sf.sweepTo keep (Sf.list S.names) S 0).2.1, (Sf.sweepTo keep (Sf.list S.names) S 0).1.dirDo.2)) else Sf.sweepTo keep (Sf.list S.names) S 0) := Lib.hid rfl
  have HSZ : Hid (∀ i, i < (Sf.list S.names).length → (bs ((Sf.list S.names).getD i [])).size ≤ maxLen) := Lib.hid (fun i hi => by
    obtain ⟨x, -, h2⟩ := Sf.list_at h.ok.nice h.keys hi
    exact Nat.le_trans h2 (by decide))
  clear h hk
  obtain ⟨l, hl⟩ : ∃ l, l = Sf.list S.names := ⟨_, rfl⟩
  rw [← hl] at HL hlf HSW HSZ
  clear hl
  obtain ⟨m, hm⟩ : ∃ m, m = l.length := ⟨_, rfl⟩
  rw [← hm] at HL hlf HSZ
  have HLM := Lib.hid hm
  clear hm
  obtain ⟨R, hR⟩ : ∃ R, R = Sf.sweepTo keep l S 0 := ⟨_, rfl⟩
  rw [← hR] at HSW
  have HRR := Lib.hid hR
  clear hR
  obtain ⟨Z, hZ⟩ : ∃ Z, Z = S.sweep keep := ⟨_, rfl⟩
  rw [← hZ] at HSW ⊢
  clear hZ
  obtain ⟨kn, hkn⟩ : ∃ kn, kn = keep.length := ⟨_, rfl⟩
  rw [← hkn] at HK hkl ⊢
  have HKN := Lib.hid hkn
  clear hkn
  go_enter Tryz.func50, Tryz.ntmps50
  go_wp2_with fail
  refine HL.out.mono ?_; rintro e w1 ⟨A1, c1, rfl, ht1, hb1⟩
  have HR1 := Lib.hid (HR.out.far hb1)
  have HT1 := Lib.hid ht1
  have HM1 : Hid (Moves wr w1) := Lib.hid ⟨Stays.below hb1, hb1.size⟩
  clear ht1 hb1 HL
  go_wp2_with fail
  go_loopw [6, 8, 9, 13] (fun cv _ _ i U => ∃ (j cnt : Nat) (T : Sf.St), j ≤ m ∧ cnt ≤ j ∧ i = .int .i64 (j : Int) ∧ cv = .int .i64 (cnt : Int) ∧ Sf.sweepTo keep (l.drop j) T cnt = R ∧ Runs W base fb B (N + j) T U ∧ Txs U wr.heap.size (.slice A1 m c1) l ∧ Moves wr U) (fun _ _ _ i _ => m - (intOf i).toNat)
  case atStart => exact ⟨0, 0, S, Nat.zero_le _, Nat.le_refl _, rfl, rfl, by rw [List.drop_zero]; exact HRR.out.symm, HR1.out, HT1.out, HM1.out⟩
  case round =>
    rename World => U
    obtain ⟨j, cnt, T, hjm, hcj, rfl, rfl, hsw, hr, ht, hmv⟩ := hrel
    have HS := Lib.hid hsw; have HRT := Lib.hid hr; have HTX := Lib.hid ht; have HMV := Lib.hid hmv
    clear hsw hr ht hmv
    have i0 : (0 : Int) ≤ (j : Int) := Int.natCast_nonneg _
    by_cases hlt : j < m
    · have i1 : (j : Int) < (m : Int) := by omega
      have d1 : decide ((j : Int) < (m : Int)) = true := decide_eq_true i1
      have hrow := HTX.out.row
      rw [← HLM.out] at hrow
      obtain ⟨ad, hAd, x0, -⟩ := hrow.at_ (Below.refl _ _) hlt
      subst hAd
      have x0 := x0 (by omega)
      rw [Nat.mul_one, show tx l j 0 = .string (bs (l.getD j [])) from rfl] at x0
      have hrk := HK.out _ HRT.out.bel HMV.out
      rw [HKN.out] at hrk
      have HC := Lib.hid (Contains_any A c keep (by rw [← HKN.out]; exact hkl) (bs (l.getD j [])) _ hrk)
      rw [← HKN.out] at HC
      have hdr := Sf.drop_getD l (show j < l.length by rw [← HLM.out]; exact hlt)
      have hbk : (bs (l.getD j [])).data.toList = l.getD j [] := by simp [bs]
      rw [hbk] at HC
      have HSJ : Hid (Sf.sweepTo keep (l.drop j) T cnt = if l.getD j [] ∈ keep then Sf.sweepTo keep (l.drop (j + 1)) T cnt else if (T.remove (bs (l.getD j []))).2 = 0 then Sf.sweepTo keep (l.drop (j + 1)) (T.remove (bs (l.getD j []))).1 (cnt + 1) else ((T.remove (bs (l.getD j []))).1, cnt, (T.remove (bs (l.getD j []))).2)) := Lib.hid (by rw [hdr]; rfl)
      have HRM := Lib.hid (HRT.out.remove (by omega) (bs (l.getD j [])) (HSZ.out j hlt))
      have hj1 : j + 1 ≤ m := hlt
      have HJ1 := Lib.hid hj1; have HCJ := Lib.hid hcj
      have HJ64 : Hid (j < 64) := Lib.hid (by omega)
      clear hjm hj1 hrow hrk hdr hbk hcj
      generalize l.getD j [] = kj at *
      by_cases hin : kj ∈ keep
      · have hd : decide (kj ∈ keep) = true := decide_eq_true hin
        have HN := Lib.hid (HS.out.symm.trans (HSJ.out.trans (if_pos hin)))
        rw [hd] at HC
        clear hin hd HRM
        go_wp2_with fail
        refine HC.out.mono ?_; rintro e w2 ⟨rfl, rfl⟩
        go_wp2_with fail
        go_roundw
        case rel => exact ⟨j + 1, cnt, T, HJ1.out, Nat.le_succ_of_le HCJ.out, by go_num, rfl, HN.out.symm, HRT.out.mono (Nat.le_refl _) (Nat.le_succ _), HTX.out, HMV.out⟩
        case measure => simp [intOf]; omega
      · have hd : decide (kj ∈ keep) = false := decide_eq_false hin
        have HN := Lib.hid (HS.out.symm.trans (HSJ.out.trans (if_neg hin)))
        rw [hd] at HC
        clear hin hd HSJ
        go_wp2_with fail
        refine HC.out.mono ?_; rintro e w2 ⟨rfl, rfl⟩
        go_wp2_with fail
        refine HRM.out.mono ?_; rintro e w3 ⟨rfl, hr, hst⟩
        have HR3 := Lib.hid hr
        have HT3 := Lib.hid (HTX.out.stays hst.st)
        have HM3 : Hid (Moves wr w3) := Lib.hid ⟨HMV.out.st.trans hst.st, Nat.le_trans HMV.out.sz hst.sz⟩
        clear hr hst x0 HRM HC
        generalize T.remove (bs kj) = TR at *
        obtain ⟨T2, e2⟩ := TR
        simp only [] at HN HR3
        by_cases he : e2 = 0
        · subst he
          have HN2 := Lib.hid (HN.out.trans (if_pos rfl))
          have HWC : Hid (IntKind.i64.wrap ((cnt : Int) + 1) = ((cnt + 1 : Nat) : Int) ∧ wrap64 ((cnt : Int) + 1) = ((cnt + 1 : Nat) : Int)) := Lib.hid (by
            have := HJ64.out; have := HCJ.out
            have e : (cnt : Int) + 1 = ((cnt + 1 : Nat) : Int) := rfl
            rw [e]
            exact ⟨IntWalk.i64_in _ (by omega), IntWalk.wrap64_in _ (by omega)⟩)
          have hw1 := HWC.out.1; have hw2 := HWC.out.2
          clear HN
          go_wp2_with fail
          go_roundw
          case rel => exact ⟨j + 1, cnt + 1, T2, HJ1.out, Nat.succ_le_succ HCJ.out, by go_num, by go_num, HN2.out.symm, HR3.out, HT3.out, HM3.out⟩
          case measure => simp [intOf]; omega
        · have q0 : (e2 != 0) = true := by simpa using he
          have q1 : (e2 == 0) = false := by simpa using he
          have q2 : decide (e2 = 0) = false := decide_eq_false he
          have HRe : Hid (R = (T2, cnt, e2)) := Lib.hid (HN.out.trans (if_neg he))
          have HZe : Hid (Z = (T2, cnt, e2)) := Lib.hid (by rw [HSW.out, HRe.out]; exact if_neg he)
          clear he HN
          go_wp2_with fail
          go_ret2
          exact ⟨by rw [HZe.out]; rfl, by rw [HZe.out]; exact HR3.out.mono (Nat.le_refl _) (by have := HJ64.out; omega), HM3.out⟩
    · have d1 : decide ((j : Int) < (m : Int)) = false := decide_eq_false (by omega)
      obtain rfl : j = m := by omega
      have HRe : Hid (R = (T, cnt, 0)) := Lib.hid (by
        rw [← HS.out, List.drop_of_length_le (by rw [← HLM.out]; exact Nat.le_refl _)]
        rfl)
      have hj64 := hlf
      have hc64 : cnt ≤ 64 := by omega
      clear hlt hjm i0 HS
      by_cases hc0 : cnt = 0
      · subst hc0
        have HZe : Hid (Z = (T, 0, 0)) := Lib.hid (by rw [HSW.out, HRe.out]; rfl)
        go_wp2_with fail
        go_ret2
        exact ⟨by rw [HZe.out]; rfl, by rw [HZe.out]; exact HRT.out.mono (Nat.le_refl _) (by omega), HMV.out⟩
      · have HZe : Hid (Z = (T.dirDo.1, cnt, T.dirDo.2)) := Lib.hid (by rw [HSW.out, HRe.out]; show (if (0 : Int) = 0 then (if cnt = 0 then _ else _) else _) = _; rw [if_pos rfl, if_neg hc0])
        have q0 : ((cnt : Int) == 0) = false := by simpa using hc0
        have q1 : decide ((cnt : Int) = 0) = false := decide_eq_false (by omega)
        have HD := Lib.hid (HRT.out.dir (by omega))
        clear hc0
        go_wp2_with fail
        refine HD.out.mono ?_; rintro e w3 ⟨rfl, hr, hst⟩
        have HR3 := Lib.hid (hr.mono (Nat.le_refl _) (show N + j + 1 ≤ N + 65 by omega))
        have HM3 : Hid (Moves wr w3) := Lib.hid ⟨HMV.out.st.trans hst.st, Nat.le_trans HMV.out.sz hst.sz⟩
        clear hr hst HD
        go_wp2_with fail
        go_ret2
        exact ⟨by rw [HZe.out]; rfl, by rw [HZe.out]; exact HR3.out, HM3.out⟩
/-- what Repair keeps: boxes of the machine, of a name, of a number; and the steps -/
structure KeptR (w : World) (fb p : Nat) (s : ByteArray) (n : Int) : Prop where
  f : w.heap[p]? = some (.cells #[.pointer (some ⟨fb, 0, none⟩)] 28 (0, 0))
  s : w.heap[p + 1]? = some (.cells #[.string s] 9 (0, 0))
  n : w.heap[p + 2]? = some (.cells #[.int .i64 n] 3 (0, 0))
theorem KeptR.stays {w w2 : World} {fb p : Nat} {s : ByteArray} {n : Int} (h : KeptR w fb p s n) (hs : Stays w w2) : KeptR w2 fb p s n :=
  ⟨hs.block h.f (by decide), hs.block h.s (by decide), hs.block h.n (by decide)⟩
theorem KeptR.far {w w2 : World} {fb p : Nat} {s : ByteArray} {n : Int} (h : KeptR w fb p s n) (hb : Below w.heap.size w w2) : KeptR w2 fb p s n :=
  ⟨heap_keep h.f hb, heap_keep h.s hb, heap_keep h.n hb⟩
section
variable {W : World} {base fb B N p : Nat} {S : Sf.St} {wr : World} {s : ByteArray} {n : Int}
set_option maxRecDepth 100000 in
theorem repair1_any (h : Runs W base fb B N S wr) (hk : KeptR wr fb p s n) (hN : N ≤ 999) (hB : B ≤ 1000000000) (hs : s.size ≤ maxLen) :
    Calls Tryz.prog 46 #[.pointer (some ⟨p, 0, none⟩), .pointer (some ⟨p + 1, 0, none⟩), .pointer (some ⟨p + 2, 0, none⟩)] wr fun e w' => e = .returned (.int .i64 (S.cut s n).2) ∧ Runs W base fb B (N + 1) (S.cut s n).1 w' ∧ KeptR w' fb p s n ∧ Moves wr w' := by
  have c0 : wr.cell? ⟨p, 0, none⟩ = some (.pointer (some ⟨fb, 0, none⟩)) := cell_of_row _ _ _ _ _ _ hk.f
  have c1 : wr.cell? ⟨p + 1, 0, none⟩ = some (.string s) := cell_of_row _ _ _ _ _ _ hk.s
  have c2 : wr.cell? ⟨p + 2, 0, none⟩ = some (.int .i64 n) := cell_of_row _ _ _ _ _ _ hk.n
  have HC := Lib.hid (h.cut hN hB s hs n)
  have HK := Lib.hid hk
  clear h hk
  go_enter Tryz.func46, Tryz.ntmps46
  go_wp2_with fail
  refine HC.out.mono ?_; rintro e w1 ⟨rfl, hr, hst⟩
  have HR := Lib.hid hr; have HS := Lib.hid hst
  clear hr hst c0 c1 c2 HC
  go_wp2_with fail
  go_ret
  exact ⟨rfl, HR.out, HK.out.stays HS.out.st, HS.out⟩
set_option maxRecDepth 100000 in
theorem repair2_any (h : Runs W base fb B N S wr) (hk : KeptR wr fb p s n) (hN : N ≤ 999) (hs : s.size ≤ maxLen) :
    Calls Tryz.prog 48 #[.pointer (some ⟨p, 0, none⟩), .pointer (some ⟨p + 1, 0, none⟩)] wr fun e w' => e = .returned (.int .i64 (S.sync s).2) ∧ Runs W base fb B (N + 1) (S.sync s).1 w' ∧ KeptR w' fb p s n ∧ Moves wr w' := by
  have c0 : wr.cell? ⟨p, 0, none⟩ = some (.pointer (some ⟨fb, 0, none⟩)) := cell_of_row _ _ _ _ _ _ hk.f
  have c1 : wr.cell? ⟨p + 1, 0, none⟩ = some (.string s) := cell_of_row _ _ _ _ _ _ hk.s
  have HC := Lib.hid (h.sync hN s hs)
  have HK := Lib.hid hk
  clear h hk
  go_enter Tryz.func48, Tryz.ntmps48
  go_wp2_with fail
  refine HC.out.mono ?_; rintro e w1 ⟨rfl, hr, hst⟩
  have HR := Lib.hid hr; have HS := Lib.hid hst
  clear hr hst c0 c1 HC
  go_wp2_with fail
  go_ret
  exact ⟨rfl, HR.out, HK.out.stays HS.out.st, HS.out⟩
end
def repFn : Nat → Nat
  | 0 => 46
  | _ => 48
def repCap (p : Nat) : Nat → Array Value
  | 0 => #[.pointer (some ⟨p, 0, none⟩), .pointer (some ⟨p + 1, 0, none⟩), .pointer (some ⟨p + 2, 0, none⟩)]
  | _ => #[.pointer (some ⟨p, 0, none⟩), .pointer (some ⟨p + 1, 0, none⟩)]
theorem rep_ent (i : Nat) (hi : i < 2) : ∀ args w, (callFunc (repFn i) args).run Tryz.prog w = .ok (.enter (repFn i) args) w := by
  rcases (show i = 0 ∨ i = 1 by omega) with rfl | rfl
  · exact enters_of Tryz.func46 (by kernel_rfl) rfl
  · exact enters_of Tryz.func48 (by kernel_rfl) rfl
def repSt (S : Sf.St) (s : ByteArray) (n : Int) : Nat → Sf.St × Int
  | 0 => (S, 0)
  | 1 => S.cut s n
  | _ => Sf.bd (S.cut s n) fun T => T.sync s
def RepI (W wl : World) (base fb B N p : Nat) (S : Sf.St) (s : ByteArray) (n : Int) (i : Nat) (w : World) : Prop :=
  (repSt S s n i).2 = 0 ∧ Runs W base fb B (N + i) (repSt S s n i).1 w ∧ KeptR w fb p s n ∧ Moves wl w
def RepE (W wl : World) (base fb B N _p : Nat) (S : Sf.St) (s : ByteArray) (n : Int) (er : Int) (w : World) : Prop :=
  (repSt S s n 2).2 = er ∧ Runs W base fb B (N + 2) (repSt S s n 2).1 w ∧ Moves wl w
theorem Moves.refl (w : World) : Moves w w := ⟨Stays.refl _, Nat.le_refl _⟩
theorem Moves.trans {w w2 w3 : World} (h : Moves w w2) (h2 : Moves w2 w3) : Moves w w3 := ⟨h.st.trans h2.st, Nat.le_trans h.sz h2.sz⟩
theorem Moves.below {w w2 : World} (h : Below w.heap.size w w2) : Moves w w2 := ⟨Stays.below h, h.size⟩
theorem rep_step {W wl : World} {base fb B N p : Nat} {S : Sf.St} {s : ByteArray} {n : Int} (hN : N ≤ 990) (hB : B ≤ 1000000000) (hs : s.size ≤ maxLen) (i : Nat) (w : World) (hi : i < 2) (h : RepI W wl base fb B N p S s n i w) :
    Calls Tryz.prog (repFn i) (#[] ++ repCap p i) w fun e w' => ∃ er : Int, e = .returned (.int .i64 er) ∧ if er = 0 then RepI W wl base fb B N p S s n (i + 1) w' else RepE W wl base fb B N p S s n er w' := by
  obtain ⟨h0, hr, hk, hm⟩ := h
  rcases (show i = 0 ∨ i = 1 by omega) with rfl | rfl
  · refine (repair1_any hr hk (by omega) hB hs).mono ?_
    rintro e w' ⟨rfl, hr2, hk2, hm2⟩
    refine ⟨_, rfl, ?_⟩
    have hm3 := hm.trans hm2
    rw [show (repSt S s n 0).1 = S from rfl] at hr2 ⊢
    by_cases he : (S.cut s n).2 = 0
    · rw [if_pos he]
      exact ⟨he, hr2, hk2, hm3⟩
    · rw [if_neg he]
      have e2 : repSt S s n 2 = S.cut s n := by show Sf.bd (S.cut s n) (fun T => T.sync s) = S.cut s n; exact Sf.bd_no he
      exact ⟨by rw [e2], by rw [e2]; exact hr2.mono (Nat.le_refl _) (by omega), hm3⟩
  · refine (repair2_any hr hk (by omega) hs).mono ?_
    rintro e w' ⟨rfl, hr2, hk2, hm2⟩
    refine ⟨_, rfl, ?_⟩
    have hm3 := hm.trans hm2
    have e2 : repSt S s n 2 = (S.cut s n).1.sync s := by show Sf.bd (S.cut s n) (fun T => T.sync s) = _; exact Sf.bd_ok h0
    rw [show repSt S s n 1 = S.cut s n from rfl, ← e2] at hr2 ⊢
    by_cases he : (repSt S s n 2).2 = 0
    · rw [if_pos he]
      exact ⟨he, hr2, hk2, hm3⟩
    · rw [if_neg he]
      exact ⟨rfl, hr2, hm3⟩
theorem rep_laid (wr : World) (fb : Nat) (s : ByteArray) (n : Int) (w : World) (hw : w = ((wr.alloc (.cells #[.pointer (some ⟨fb, 0, none⟩)] 28)).alloc (.cells #[.string s] 9)).alloc (.cells #[.int .i64 n] 3)) :
    KeptR w fb wr.heap.size s n ∧ Below wr.heap.size wr w := by
  have one : ∀ (U : World) (o : Obj), Below U.heap.size U (U.alloc o) ∧ (U.alloc o).heap.size = U.heap.size + 1 ∧ (∀ cs T, o = .cells cs T → (U.alloc o).heap[U.heap.size]? = some (.cells cs T (0, 0))) := fun U o => ⟨(Below.refl _ _).alloc (Nat.le_refl _) _, by simp, fun cs T e => by subst e; exact heap_alloc_new U _⟩
  subst hw
  obtain ⟨b1, z1, n1⟩ := one wr (.cells #[.pointer (some ⟨fb, 0, none⟩)] 28)
  have n1 := n1 _ _ rfl
  generalize wr.alloc (.cells #[.pointer (some ⟨fb, 0, none⟩)] 28) = w1 at *
  obtain ⟨b2, z2, n2⟩ := one w1 (.cells #[.string s] 9)
  have n2 := n2 _ _ rfl
  generalize w1.alloc (.cells #[.string s] 9) = w2 at *
  obtain ⟨b3, z3, n3⟩ := one w2 (.cells #[.int .i64 n] 3)
  have n3 := n3 _ _ rfl
  generalize w2.alloc (.cells #[.int .i64 n] 3) = w3 at *
  have c3 := b3
  have c2 := below_step b2 c3
  rw [z1] at n2
  rw [z2, z1] at n3
  exact ⟨⟨heap_keep n1 c2, heap_keep n2 c3, n3⟩, below_step b1 c2⟩
set_option maxRecDepth 100000 in
set_option maxHeartbeats 2000000 in
theorem Repair_any {W : World} {base fb B N : Nat} {S : Sf.St} {wr : World} (h : Runs W base fb B N S wr) (hN : N ≤ 990) (hB : B ≤ 1000000000) (s : ByteArray) (hs : s.size ≤ maxLen) (n : Int) :
    Calls Tryz.prog 18 #[.pointer (some ⟨fb, 0, none⟩), .string s, .int .i64 n] wr fun e w' => e = .returned (.int .i64 (S.repair s n).2) ∧ Runs W base fb B (N + 2) (S.repair s n).1 w' ∧ Moves wr w' := by
  obtain ⟨wl, hwl⟩ : ∃ wl, wl = ((wr.alloc (.cells #[.pointer (some ⟨fb, 0, none⟩)] 28)).alloc (.cells #[.string s] 9)).alloc (.cells #[.int .i64 n] 3) := ⟨_, rfl⟩
  obtain ⟨hk, hbl⟩ := rep_laid wr fb s n wl hwl
  have HRD := Lib.hid ((h.far hbl).read s hs)
  have HK := Lib.hid hk; have HR := Lib.hid (h.far hbl); have HM := Lib.hid (Moves.below hbl)
  have c0 : wl.cell? ⟨wr.heap.size, 0, none⟩ = some (.pointer (some ⟨fb, 0, none⟩)) := cell_of_row _ _ _ _ _ _ hk.f
  have c1 : wl.cell? ⟨wr.heap.size + 1, 0, none⟩ = some (.string s) := cell_of_row _ _ _ _ _ _ hk.s
  have c2 : wl.cell? ⟨wr.heap.size + 1 + 1, 0, none⟩ = some (.int .i64 n) := cell_of_row _ _ _ _ _ _ hk.n
  have hmf := run_make_func
  obtain ⟨Z, hZ⟩ : ∃ Z, Z = S.repair s n := ⟨_, rfl⟩
  rw [← hZ]
  have HZ : Hid (Z = if (S.read s).2 = 0 ∧ ((S.read s).1.size : Int) = n then (S, 0) else Sf.bd (S.cut s n) fun T => T.sync s) := Lib.hid hZ
  clear hZ h hk hbl
  generalize hRS : S.read s = RS at *
  obtain ⟨tv, te⟩ := RS
  simp only [] at HZ HRD
  clear hRS
  go_enter Tryz.func18, Tryz.ntmps18
  go_upto_region 1 with (fail)
  rw [← hwl]
  clear hwl
  go_wp2_with fail
  refine HRD.out.mono ?_; rintro e w2 ⟨rfl, hb2⟩
  have HK2 := Lib.hid (HK.out.far hb2); have HR2 := Lib.hid (HR.out.far hb2); have HM2 := Lib.hid (HM.out.trans (Moves.below hb2))
  have d0 : w2.cell? ⟨wr.heap.size, 0, none⟩ = some (.pointer (some ⟨fb, 0, none⟩)) := cell_keep c0 hb2
  have d2 : w2.cell? ⟨wr.heap.size + 1 + 1, 0, none⟩ = some (.int .i64 n) := cell_keep c2 hb2
  clear c0 c1 c2 hb2 HRD HK HR HM
  by_cases hyes : te = 0 ∧ (tv.size : Int) = n
  · obtain ⟨rfl, hn⟩ := hyes
    have q0 : (((tv.size : Nat) : Int) == n) = true := by simpa using hn
    have q1 : decide (((tv.size : Nat) : Int) = n) = true := decide_eq_true hn
    have HZ2 : Hid (Z = (S, 0)) := Lib.hid (HZ.out.trans (if_pos ⟨rfl, hn⟩))
    clear hn
    go_wp2_with fail
    go_ret
    exact ⟨by rw [HZ2.out]; rfl, by rw [HZ2.out]; exact HR2.out.mono (Nat.le_refl _) (by omega), HM2.out⟩
  · have HZ2 := Lib.hid (HZ.out.trans (if_neg hyes))
    have HGO : Hid (te = 0 → ¬ ((tv.size : Int) = n)) := Lib.hid (fun a b => hyes ⟨a, b⟩)
    clear hyes HZ
    obtain ⟨p, hp⟩ : ∃ p, p = wr.heap.size := ⟨_, rfl⟩
    obtain ⟨w3, hw3⟩ : ∃ w3, w3 = w2.alloc (.cells #[.func (.func (repFn 0)) #[] (repCap p 0), .func (.func (repFn 1)) #[] (repCap p 1)] 72) := ⟨_, rfl⟩
    have hb3 : Below w2.heap.size w2 w3 := by rw [hw3]; exact (Below.refl _ _).alloc (Nat.le_refl _) _
    have hf3 : w3.heap[w2.heap.size]? = some (.cells #[.func (.func (repFn 0)) #[] (repCap p 0), .func (.func (repFn 1)) #[] (repCap p 1)] 72 (0, 0)) := by rw [hw3]; exact heap_alloc_new w2 _
    have hi0 : RepI W w3 base fb B N p S s n 0 w3 := ⟨rfl, HR2.out.far hb3, by rw [hp]; exact HK2.out.far hb3, Moves.refl _⟩
    have HM3 := Lib.hid (HM2.out.trans (Moves.below hb3))
    have HIN := Lib.hid (inOrder_any w2.heap.size 2 2 (by decide) repFn (fun _ => #[]) (repCap p) (RepI W w3 base fb B N p S s n) (RepE W w3 base fb B N p S s n) w3 hi0 (by
      intro i U hi hI
      obtain ⟨-, -, -, hm⟩ := hI
      have hU := hm.st.block hf3 (by decide)
      rcases (show i = 0 ∨ i = 1 by omega) with rfl | rfl <;> exact cell_of_row _ _ _ _ _ _ hU) rep_ent (fun i w hi hh => rep_step hN hB hs i w hi hh))
    have hw4 := hw3
    rw [hp] at hw4
    simp only [repFn, repCap] at hw4
    clear hw3 hb3 hf3 hi0
    have HTE := Lib.hid (And.intro HZ2.out HGO.out)
    by_cases ht0 : te = 0
    · have hne := HGO.out ht0
      subst ht0
      have q0 : (((tv.size : Nat) : Int) == n) = false := by simpa using hne
      have q1 : decide (((tv.size : Nat) : Int) = n) = false := decide_eq_false hne
      clear hne
      go_wp2_with fail
      rw [← hw4]
      clear hw4
      refine HIN.out.mono ?_; rintro e w5 ⟨er, rfl, hend⟩
      have hfin : RepE W w3 base fb B N p S s n er w5 := by
        split at hend
        · rename_i he
          obtain ⟨a1, a2, -, a4⟩ := hend
          exact ⟨by rw [he]; exact a1, a2, a4⟩
        · exact hend
      have HF := Lib.hid hfin
      clear hend hfin HIN
      go_wp2_with fail
      go_ret
      exact ⟨by rw [HZ2.out, ← HF.out.1]; rfl, by rw [HZ2.out]; exact HF.out.2.1, HM3.out.trans HF.out.2.2⟩
    · have q0 : (te == 0) = false := by simpa using ht0
      have q1 : decide (te = 0) = false := decide_eq_false ht0
      clear ht0
      go_wp2_with fail
      rw [← hw4]
      clear hw4
      refine HIN.out.mono ?_; rintro e w5 ⟨er, rfl, hend⟩
      have hfin : RepE W w3 base fb B N p S s n er w5 := by
        split at hend
        · rename_i he
          obtain ⟨a1, a2, -, a4⟩ := hend
          exact ⟨by rw [he]; exact a1, a2, a4⟩
        · exact hend
      have HF := Lib.hid hfin
      clear hend hfin HIN
      go_wp2_with fail
      go_ret
      exact ⟨by rw [HZ2.out, ← HF.out.1]; rfl, by rw [HZ2.out]; exact HF.out.2.1, HM3.out.trans HF.out.2.2⟩
end Go.Proofs.YtfibapfehgglhaaGreatDoor
