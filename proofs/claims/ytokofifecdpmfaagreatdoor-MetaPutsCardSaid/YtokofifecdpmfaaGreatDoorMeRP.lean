/-
  What Put of the document's answer for metas comes to.
-/
import Derived.Test.YtokofifecdpmfaaGreatDoorMeRS
namespace Go.Proofs.YtokofifecdpmfaaGreatDoor
open Go.RowKit
/-- what Put of the document's answer holds on to -/
structure RPHeld (w : World) (b : Nat) (m : Me.M) (A : Option Addr) (c : Nat) (W : World) : Prop where
  mt : RMetaAt b m A c W
  row : Ints W A c m.bs
  bel : Below w.heap.size w W
theorem RPHeld.drew {w : World} {b : Nat} {m : Me.M} {A : Option Addr} {c : Nat} {W : World} (h : RPHeld w b m A c W) : RPHeld w b m A c W.drew := ⟨h.mt, ⟨h.row.row, h.row.nil, h.row.le⟩, h.bel.drew⟩
theorem RPHeld.later {w : World} {b : Nat} {m : Me.M} {A : Option Addr} {c : Nat} {W W2 : World} (h : RPHeld w b m A c W) (hb : Below W.heap.size W W2) : RPHeld w b m A c W2 := ⟨h.mt.later hb, h.row.later hb, below_step h.bel hb⟩
theorem Me.tells_take2 (m : Me.M) (k : Nat) (hk : k < m.bs.length) : Me.nums m.gen (Me.head3 m ++ (Me.tells m.gen 0 m.bs).take (k + 1)) = Me.nums m.gen (Me.head3 m ++ (Me.tells m.gen 0 m.bs).take k) ++ Me.one m.gen (if m.gen = 3 then Num.zig (m.bs.getD k 0 - Me.ahead m.bs k) else (m.bs.getD k 0).toNat) := by
  rw [Me.tells_take m.gen m.bs 0 k hk, ← List.append_assoc, Me.nums_snoc]
  rfl

set_option maxRecDepth 100000 in
set_option maxHeartbeats 4000000 in
theorem rMPut_any (m : Me.M) (A : Option Addr) (c : Nat) (hl : m.bs.length ≤ 700) (w : World) (hA : Ints w A c m.bs) :
    Calls Tryz.prog 7 #[.agg #[.int .i64 m.gen, .int .i64 m.next, .int .i64 m.wal, .slice A m.bs.length c]] w fun e w' => e = .returned (.tuple #[.string (Me.putB m), .int .i64 (Me.putE m : Nat)]) ∧ Below w.heap.size w w' := by
  have hm1 : RMetaAt w.heap.size m A c (w.alloc (.cells #[.int .i64 m.gen, .int .i64 m.next, .int .i64 m.wal, .slice A m.bs.length c] 30)) := heap_alloc_new _ _
  have hb1 : Below w.heap.size w (w.alloc (.cells #[.int .i64 m.gen, .int .i64 m.next, .int .i64 m.wal, .slice A m.bs.length c] 30)) := (Below.refl _ w).alloc (Nat.le_refl _) _
  have hh1 : RPHeld w w.heap.size m A c (w.alloc (.cells #[.int .i64 m.gen, .int .i64 m.next, .int .i64 m.wal, .slice A m.bs.length c] 30)) := ⟨hm1, hA.later hb1, hb1⟩
  obtain ⟨c0, c1, c2, c3⟩ := hm1.cells
  have HVA := Lib.hid (fun W h => rValid_any m A c hl W h)
  have HH1 := Lib.hid hh1
  clear hm1 hb1 hh1 hA
  generalize hw1 : w.alloc (.cells #[.int .i64 m.gen, .int .i64 m.next, .int .i64 m.wal, .slice A m.bs.length c] 30) = w1 at *
  cases hv : Me.valid m
  · have e1 : Me.putB m = ByteArray.empty := by unfold Me.putB; rw [hv]; rfl
    have e2 : Me.putE m = 1 := by unfold Me.putE; rw [hv]; rfl
    rw [e1, e2]
    rw [hv] at HVA
    clear e1 e2 hv
    go_enter Tryz.func7, Tryz.ntmps7
    go_wp2_with fail
    refine (HVA.out _ HH1.out.row).mono ?_; rintro e w2 ⟨rfl, hb2⟩
    have HB2 := Lib.hid (below_step HH1.out.bel hb2); clear hb2
    go_wp2_with fail
    go_ret2
    exact ⟨rfl, HB2.out⟩
  · have e1 : Me.putB m = Me.bytes m := by unfold Me.putB; rw [hv]; rfl
    have e2 : Me.putE m = 0 := by unfold Me.putE; rw [hv]; rfl
    rw [e1, e2]
    rw [hv] at HVA
    obtain ⟨o1, o2, o3, o4, o5⟩ := Me.valid_okay hv
    obtain ⟨x1, x2⟩ := Me.valid_wal hv
    have hmem := Me.valid_mem hv
    have hab := Me.ahead_bound m hv
    have htk := Me.tells_take2 m
    have hah : ∀ k, Me.ahead m.bs (k + 1) = m.bs.getD k 0 := fun k => by unfold Me.ahead; rw [if_neg (by omega)]; rfl
    have hz : ∀ k, (Me.nums m.gen (Me.head3 m ++ (Me.tells m.gen 0 m.bs).take k)).size ≤ 500 := fun k => by
      have h1 := Me.nums_size m.gen (Me.head3 m ++ (Me.tells m.gen 0 m.bs).take k)
      have h2 : (Me.head3 m ++ (Me.tells m.gen 0 m.bs).take k).length ≤ 43 := by
        rw [List.length_append, List.length_take, Me.tells_length]
        have : (Me.head3 m).length = 3 := rfl
        omega
      omega
    have hbody : Me.nums m.gen (Me.head3 m ++ (Me.tells m.gen 0 m.bs).take m.bs.length) = Me.body m := by
      rw [List.take_of_length_le (by rw [Me.tells_length]; exact Nat.le_refl _)]; rfl
    have hby : Me.bytes m = Fr.head Me.amet m.gen 0 ++ Fr.put (Me.body m) := rfl
    have hbz := Me.body_size m o5
    have hbsz := Me.bytes_size m o5
    obtain ⟨nx, hnx⟩ : ∃ nx : Nat, m.next = nx := ⟨m.next.toNat, by omega⟩
    obtain ⟨wl, hwl⟩ : ∃ wl : Nat, (if m.gen = 3 then m.next - m.wal else m.wal) = wl := ⟨(if m.gen = 3 then m.next - m.wal else m.wal).toNat, by split <;> omega⟩
    have hwl2 : wl ≤ 999999 := by split at hwl <;> omega
    have hhd : Me.nums m.gen (Me.head3 m ++ (Me.tells m.gen 0 m.bs).take 0) = (Me.one m.gen nx ++ Me.one m.gen wl) ++ Me.one m.gen m.bs.length := by
      unfold Me.head3
      rw [hwl, hnx]
      simp [Me.nums, ByteArray.append_assoc]
    have hnum : ∀ (n : Nat) (W : World), n ≤ 9999999 → Calls Tryz.prog 22 #[.int .i64 n, .int .i64 m.gen] W fun e w' => e = .returned (.string (Me.one m.gen n)) ∧ Below W.heap.size W w' := fun n W h => rnumber_any n (by omega) m.gen W
    have z1 := Me.one_size m.gen nx
    have z2 := Me.one_size m.gen wl
    have z3 := Me.one_size m.gen m.bs.length
    have HMEM := Lib.hid hmem; have HAB := Lib.hid hab; have HTK := Lib.hid htk; have HAH := Lib.hid hah; have HZ := Lib.hid hz; have HBODY := Lib.hid hbody; have HBY := Lib.hid hby; have HBSZ := Lib.hid hbsz; have HHD := Lib.hid hhd; have HNUM := Lib.hid hnum; have HWL := Lib.hid hwl; have HNX := Lib.hid hnx; have HBZ := Lib.hid hbz
    have hsub : wrap64 (m.next - m.wal) = m.next - m.wal := IntWalk.wrap64_in _ ⟨by omega, by omega⟩
    clear e1 e2 hv hmem hab htk hah hz hbody hby hbsz hhd hnum hwl hnx hbz
    generalize Me.bytes m = BY at *
    go_enter Tryz.func7, Tryz.ntmps7
    go_wp2_with fail
    refine (HVA.out _ HH1.out.row).mono ?_; rintro e w2 ⟨rfl, hb2⟩
    have HH2 := Lib.hid (HH1.out.later hb2); clear hb2 c0 c1 c2 c3
    obtain ⟨c0, c1, c2, c3⟩ := HH2.out.mt.cells
    go_upto_if 15 with fail
    go_cut [4] (fun v4 wx => v4 = .int .i64 (wl : Int) ∧ w2 = wx)
    case first =>
      have hwl := HWL.out
      by_cases h3 : m.gen = 3
      · have g3 : (m.gen == 3) = true := by simpa using h3
        rw [if_pos h3] at hwl
        clear h3
        go_wp2_with fail
        go_meet
        exact ⟨by first | rfl | rw [hwl], rfl⟩
      · have g3 : (m.gen == 3) = false := by simpa using h3
        rw [if_neg h3] at hwl
        clear h3
        go_wp2_with fail
        go_meet
        exact ⟨by first | rfl | rw [hwl], rfl⟩
    case rest =>
      obtain ⟨rfl, rfl⟩ := hcut
      have hnx := HNX.out
      rw [hnx] at c1
      have b1 : nx ≤ 9999999 := by omega
      have b2 : wl ≤ 9999999 := by omega
      have b3 : m.bs.length ≤ 9999999 := by omega
      have hsum1 : ¬ 9223372036854775807 < (Me.one m.gen nx).size + (Me.one m.gen wl).size := by omega
      have hsum2 : ¬ 9223372036854775807 < (Me.one m.gen nx ++ Me.one m.gen wl).size + (Me.one m.gen m.bs.length).size := by rw [ByteArray.size_append]; omega
      have hsum3 : ¬ 9223372036854775807 < (Me.one m.gen nx).size + (Me.one m.gen wl).size + (Me.one m.gen m.bs.length).size := by omega
      go_upto_region 6 with fail
      go_cut [5] (fun v5 wx => v5 = .string ((Me.one m.gen nx ++ Me.one m.gen wl) ++ Me.one m.gen m.bs.length) ∧ RPHeld w w.heap.size m A c wx)
      case first =>
        clear hnx hsub
        go_region_held3 (fun W => W.cell? ⟨w.heap.size, 0, none⟩ = some (.int .i64 m.gen) ∧ W.cell? ⟨w.heap.size, 1, none⟩ = some (.int .i64 (nx : Int)) ∧ W.cell? ⟨w.heap.size, 3, none⟩ = some (.slice A m.bs.length c) ∧ RPHeld w w.heap.size m A c W)
          (first | exact ⟨c0, c1, c3, HH2.out⟩ | exact ⟨c0, c1, c3, HH2.out.drew⟩ | (go_split_ands; refine ⟨?_, ?_, ?_, ?_⟩ <;> first | assumption | exact cell_keep (by assumption) hb2 | exact RPHeld.later (by assumption) hb2))
          (first | (go_at_call 22; refine (HNUM.out _ _ (by first | exact b1 | exact b2 | exact b3)).mono ?_; rintro e W2 ⟨rfl, hb2⟩))
        go_wp2_with fail
        go_meet
        go_split_ands
        exact ⟨rfl, by assumption⟩
      case rest =>
        obtain ⟨rfl, hh⟩ := hcut
        rw [← HHD.out]
        have HH3 := Lib.hid hh
        obtain ⟨e0, e1, e2, e3⟩ := hh.mt.cells
        clear hh c0 c1 c2 c3 hsum1 hsum2 hsum3 hnx hsub b1 b2 b3 z1 z2 z3 HHD HH2
        go_wp2_with fail
        clear e0 e1 e2 e3
        go_loopw [5, 6, 7] (fun v5 v6 i wr => ∃ k : Nat, k ≤ m.bs.length ∧ i = .int .i64 k ∧ v6 = .int .i64 (Me.ahead m.bs k) ∧ v5 = .string (Me.nums m.gen (Me.head3 m ++ (Me.tells m.gen 0 m.bs).take k)) ∧ RPHeld w w.heap.size m A c wr) (fun _ _ i _ => m.bs.length - (intOf i).toNat)
        case atStart => exact ⟨0, by omega, rfl, rfl, rfl, HH3.out⟩
        case round =>
          obtain ⟨k, hk, rfl, rfl, rfl, hh⟩ := hrel
          have HH4 := Lib.hid hh
          obtain ⟨c0, c1, c2, c3⟩ := hh.mt.cells
          clear hh
          by_cases hlt : k < m.bs.length
          · obtain ⟨ad, rfl, -, hc⟩ := HH4.out.row.row (by omega)
            have x0 := hc k hlt
            have hxb := HMEM.out (m.bs.getD k 0) (by simp [List.getD, hlt])
            have hac := HAB.out k hk
            have hnx := HTK.out k hlt
            have hah := HAH.out k
            have hzz := HZ.out k
            have hcell : ∀ W, RPHeld w w.heap.size m (some ad) c W → W.cell? (ad.add k) = some (.int .i64 (m.bs.getD k 0)) := fun W h => by
              obtain ⟨ad2, e, -, hc2⟩ := h.row.row (by omega)
              cases e
              exact hc2 k hlt
            have HTN := Lib.hid hnx; have HAK := Lib.hid hah; have HCELL := Lib.hid hcell
            clear hc hnx hah hcell
            generalize m.bs.getD k 0 = x at *
            generalize Me.ahead m.bs k = l at *
            generalize Me.nums m.gen (Me.head3 m ++ (Me.tells m.gen 0 m.bs).take k) = acc at *
            obtain ⟨xv, rfl⟩ : ∃ xv : Nat, x = xv := ⟨x.toNat, by omega⟩
            obtain ⟨t, ht⟩ : ∃ t, (if m.gen = 3 then Num.zig ((xv : Int) - l) else (xv : Int).toNat) = t := ⟨_, rfl⟩
            rw [ht] at HTN
            have HTT := Lib.hid ht
            have hts := Me.one_size m.gen t
            have i1 : (k : Int) < (m.bs.length : Int) := by omega
            have i0 : (0 : Int) ≤ (k : Int) := by omega
            have hsum : ¬ 9223372036854775807 < acc.size + (Me.one m.gen t).size := by omega
            clear ht
            go_upto_if 47 with fail
            go_cut [5] (fun v5 wx => v5 = .string (acc ++ Me.one m.gen t) ∧ RPHeld w w.heap.size m (some ad) c wx)
            case first =>
              have ht := HTT.out
              by_cases h3 : m.gen = 3
              · have g3 : (m.gen == 3) = true := by simpa using h3
                rw [if_pos h3] at ht
                have hsub : IntKind.i64.wrap ((xv : Int) - l) = (xv : Int) - l := IntWalk.i64_in _ (by omega)
                have hsub2 : wrap64 ((xv : Int) - l) = (xv : Int) - l := IntWalk.wrap64_in _ ⟨by omega, by omega⟩
                have hzl := Num.zig_lt ((xv : Int) - l) (by omega) (by omega)
                have hzg := rZig_any ((xv : Int) - l) (Lib.hid (by omega))
                rw [ht] at hzg hzl
                have hone : Me.one m.gen t = Num.smallB t := by unfold Me.one; rw [if_neg (by omega)]
                have hsm := fun W => rSmall_any t (Lib.hid hzl) W
                rw [← hone] at hsm
                have HZG := Lib.hid hzg; have HSM := Lib.hid hsm
                clear ht h3 hzg hsm hone hzl
                generalize Me.one m.gen t = ot at *
                go_wp2_with fail
                refine (HZG.out _).mono ?_; rintro e w6 ⟨rfl, rfl⟩
                go_wp2_with fail
                refine (HSM.out _).mono ?_; rintro e w7 ⟨rfl, hb7⟩
                have HH7 := Lib.hid (HH4.out.later hb7); clear hb7
                go_wp2_with fail
                go_meet
                exact ⟨rfl, HH7.out⟩
              · have g3 : (m.gen == 3) = false := by simpa using h3
                rw [if_neg h3, Int.toNat_natCast] at ht
                subst ht
                have b1 : xv ≤ 9999999 := by omega
                have HN1 := Lib.hid (fun W => HNUM.out xv W b1)
                clear h3
                generalize Me.one m.gen xv = ot at *
                go_wp2_with fail
                go_region_held3 (fun W => W.cell? ⟨w.heap.size, 0, none⟩ = some (.int .i64 m.gen) ∧ W.cell? ⟨w.heap.size, 3, none⟩ = some (.slice (some ad) m.bs.length c) ∧ W.cell? (ad.add k) = some (.int .i64 (xv : Int)) ∧ RPHeld w w.heap.size m (some ad) c W)
                  (first | exact ⟨c0, c3, x0, HH4.out⟩ | exact ⟨c0, c3, x0, HH4.out.drew⟩ | (go_split_ands; refine ⟨?_, ?_, ?_, ?_⟩ <;> first | assumption | exact cell_keep (by assumption) hb2 | exact RPHeld.later (by assumption) hb2))
                  (first | (go_at_call 22; refine (HN1.out _).mono ?_; rintro e W2 ⟨rfl, hb2⟩))
                go_wp2_with fail
                go_meet
                go_split_ands
                exact ⟨rfl, by assumption⟩
            case rest =>
              obtain ⟨rfl, hh⟩ := hcut
              have HH8 := Lib.hid hh
              clear c0 c1 c2 c3 x0
              obtain ⟨c0, c1, c2, c3⟩ := hh.mt.cells
              have x0 := HCELL.out _ hh
              clear hh
              go_wp2_with fail
              go_roundw
              case rel =>
                refine ⟨k + 1, by omega, by go_num, by rw [HAK.out], by rw [HTN.out], HH8.out⟩
              case measure => simp [intOf]; omega
          · obtain rfl : k = m.bs.length := by omega
            rw [HBODY.out]
            have hhd := fun W => rHead_any Me.amet (by decide) m.gen 0 W
            have hhd2 : ∀ W, Calls Tryz.prog 25 #[.string ⟨#[65, 77, 69, 84]⟩, .int .i64 m.gen, .int .i64 0] W fun e w' => e = .returned (.string (Fr.head Me.amet m.gen 0)) ∧ Below W.heap.size W w' := hhd
            have hfp := fun W => rFPut_any (Me.body m) (by have := HBZ.out; omega) W
            have hbsz := HBSZ.out
            rw [HBY.out, ByteArray.size_append] at hbsz
            have hsum : ¬ 9223372036854775807 < (Fr.head Me.amet m.gen 0).size + (Fr.put (Me.body m)).size := by omega
            have HHD := Lib.hid hhd2; have HFP := Lib.hid hfp
            have i1 : ¬ ((m.bs.length : Nat) : Int) < (m.bs.length : Int) := by omega
            clear hhd hhd2 hfp hbsz HBSZ HTK HZ HBODY
            generalize Fr.head Me.amet m.gen 0 = hd at *
            generalize Fr.put (Me.body m) = pb at *
            generalize Me.body m = bd at *
            go_wp2_with fail
            refine (HHD.out _).mono ?_; rintro e w5 ⟨rfl, hb5⟩
            have HH5 := Lib.hid (HH4.out.later hb5); clear hb5
            go_wp2_with fail
            refine (HFP.out _).mono ?_; rintro e w6 ⟨rfl, hb6⟩
            have HH6 := Lib.hid (HH5.out.later hb6); clear hb6
            go_wp2_with fail
            go_ret2
            exact ⟨by rw [HBY.out]; rfl, HH6.out.bel⟩
end Go.Proofs.YtokofifecdpmfaaGreatDoor
