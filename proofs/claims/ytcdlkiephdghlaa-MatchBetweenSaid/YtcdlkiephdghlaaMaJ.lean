/-
  What the references Sorted and Between come to, and the walk of MatchBetween.
-/
import Derived.Test.YtcdlkiephdghlaaMaI
namespace Go.Proofs.Ytcdlkiephdghlaa
open Go.RowKit
set_option maxRecDepth 100000 in
set_option maxHeartbeats 1000000 in
theorem rSorted_any (A : Option Addr) (n c : Nat) (hn : n ≤ 1000000) (s : Nat → Sam) (w : World) (hA : Row 2 (sx s) w A n) :
    Calls Try.prog 27 #[.slice A n c] w fun e w' => e = .returned (.bool (Ma.rising s n)) ∧ DrewOf w w' := by
  have HA := Lib.hid hA; clear hA
  go_enter Try.func27, Try.ntmps27
  go_wp2_with fail
  go_loopw [3] (fun i wr => ∃ (k : Nat), 1 ≤ k ∧ i = .int .i64 k ∧ (∀ j, j + 1 < k → (s j).t < (s (j + 1)).t) ∧ DrewOf w wr) (fun i _ => n - (intOf i).toNat)
  case atStart => exact ⟨1, Nat.le_refl _, rfl, fun j hj => by omega, ⟨0, rfl⟩⟩
  case round =>
    obtain ⟨k, hk, rfl, hall, q, rfl⟩ := hrel
    have HE := Lib.hid hall; clear hall
    by_cases hlt : k < n
    · obtain ⟨ad, rfl, c0, -⟩ := HA.out.at_ (Below.refl _ _) hlt
      obtain ⟨ad2, e, c1, -⟩ := HA.out.at_ (Below.refl _ _) (show k - 1 < n by omega)
      cases e
      have e0 := c0 (by omega)
      have e1 := c1 (by omega)
      have x0 : sx s k 0 = .int .i64 (s k).t := rfl
      have x1 : sx s (k - 1) 0 = .int .i64 (s (k - 1)).t := rfl
      rw [x0] at e0; rw [x1] at e1
      have i1 : (k : Int) < (n : Int) := by omega
      have i0 : (0 : Int) ≤ (k : Int) := by omega
      have i2 : IntKind.i64.wrap ((k : Int) - 1) = ((k - 1 : Nat) : Int) := by rw [IntWalk.i64_in _ (by omega)]; omega
      have i3 : wrap64 ((k : Int) - 1) = ((k - 1 : Nat) : Int) := by rw [IntWalk.wrap64_in _ (by omega)]; omega
      have i4 : ((k - 1 : Nat) : Int) < (n : Int) := by omega
      have i5 : (0 : Int) ≤ ((k - 1 : Nat) : Int) := by omega
      have HK : Hid (k - 1 + 1 = k) := Lib.hid (by omega)
      clear c0 c1 x0 x1
      by_cases hf : (s (k - 1)).t < (s k).t
      · have d0 : decide ((s k).t ≤ (s (k - 1)).t) = false := by simp; omega
        have HF := Lib.hid hf; clear hf
        go_wp2_with fail
        go_quiet (fail)
        go_wp2_with fail
        go_roundw
        case rel => exact ⟨k + 1, by omega, by go_num, fun j hj => (by
          rcases Nat.lt_or_ge (j + 1) k with h1 | h1
          · exact HE.out j h1
          · obtain rfl : j = k - 1 := by omega
            rw [HK.out]; exact HF.out), _, rfl⟩
        case measure => simp [intOf]; omega
      · have d0 : decide ((s k).t ≤ (s (k - 1)).t) = true := by simp; omega
        have HR : Hid (Ma.rising s n = false) := Lib.hid (Ma.rising_no (i := k - 1) (by omega) (by rw [show k - 1 + 1 = k from by omega]; exact hf))
        clear hf
        go_wp2_with fail
        go_quiet (fail)
        go_wp2_with fail
        go_ret
        exact ⟨by rw [HR.out]; rfl, _, World.drewN_drewN _ _ _⟩
    · have HR : Hid (Ma.rising s n = true) := Lib.hid (Ma.rising_yes (fun i hi => HE.out i (by omega)))
      have i1 : ¬ (k : Int) < (n : Int) := by omega
      go_wp2_with fail
      go_ret
      exact ⟨by rw [HR.out]; rfl, _, rfl⟩
set_option maxRecDepth 100000 in
set_option maxHeartbeats 1000000 in
theorem rBetween_any (A : Option Addr) (n c : Nat) (hn : n ≤ 1000000) (s : Nat → Sam) (lo hi : Int) (inn : Bool) (w : World) (hA : Row 2 (sx s) w A n) :
    Calls Try.prog 25 #[.slice A n c, .int .i64 lo, .int .i64 hi, .bool inn] w (Picks 52 2 (fun i => [sx s i 0, sx s i 1]) (Ma.sel (fun i => Ma.inT lo hi (s i).t == inn) n) w) := by
  obtain ⟨i0, hi0, hz0, hz1, hz2⟩ := info_parts infoS
  have HA := Lib.hid hA; clear hA
  go_enter Try.func25, Try.ntmps25
  go_wp2_with fail
  go_loopw [9, 10] (fun v i wr => ∃ k : Nat, k ≤ n ∧ i = .int .i64 k ∧ wr.ownsRow w.heap.size 52 2 v (Ma.sel (fun i => Ma.inT lo hi (s i).t == inn) k).length ((Ma.sel (fun i => Ma.inT lo hi (s i).t == inn) k).flatMap fun i => [sx s i 0, sx s i 1]) ∧ Below w.heap.size w wr) (fun _ i _ => n - (intOf i).toNat)
  case atStart => exact ⟨0, by omega, rfl, World.ownsRow_nil _ _ _ _, Below.refl _ _⟩
  case round =>
    obtain ⟨k, hk, rfl, hown, hb⟩ := hrel
    have HB := Lib.hid hb; have HO := Lib.hid hown; clear hb
    by_cases hlt : k < n
    · obtain ⟨ad, rfl, c0, c1⟩ := HA.out.at_ HB.out hlt
      have e0 : wr.cell? (ad.add (k * 2)) = some (.int .i64 (s k).t) := c0 (by omega)
      have e1 : wr.cell? ⟨(ad.add (k * 2)).block, (ad.add (k * 2)).off + 1, none⟩ = some (.int .u64 (s k).v) := c1 1 (by omega) (by omega)
      have j1 : (k : Int) < (n : Int) := by omega
      have j0 : (0 : Int) ≤ (k : Int) := by omega
      have hsl := Ma.sel_length (fun i => Ma.inT lo hi (s i).t == inn) k
      have hb1 : (Ma.sel (fun i => Ma.inT lo hi (s i).t == inn) k).length + 1 ≤ maxLen := by unfold maxLen; omega
      have hb2 : ((Ma.sel (fun i => Ma.inT lo hi (s i).t == inn) k).length + 1) * 16 ≤ 140737488355328 := by omega
      have hb3 : w.heap.size ≤ (wr.alloc (.cells #[.int .i64 (s k).t, .int .u64 (s k).v] 52)).heap.size := by have := HB.out.size; simp; omega
      have HB1 := Lib.hid hb1; have HB2 := Lib.hid hb2; have HB3 := Lib.hid hb3
      have hyes := fun h => Ma.sel_yes (b := fun i => Ma.inT lo hi (s i).t == inn) (p := k) h
      have hno := fun h => Ma.sel_no (b := fun i => Ma.inT lo hi (s i).t == inn) (p := k) h
      have HY := Lib.hid hyes; have HN := Lib.hid hno
      have x0 : sx s k 0 = .int .i64 (s k).t := rfl
      have x1 : sx s k 1 = .int .u64 (s k).v := rfl
      have HX := Lib.hid (And.intro x0 x1)
      have hin : Ma.inT lo hi (s k).t = (decide (lo ≤ (s k).t) && decide ((s k).t ≤ hi)) := rfl
      clear hb1 hb2 hb3 hyes hno hsl c0 c1 x0 x1 hown
      generalize hT : (s k).t = t at *
      generalize hU : (s k).v = u at *
      have HT := Lib.hid hT; have HU := Lib.hid hU; clear hT hU
      cases q1 : decide (lo ≤ t)
      · rw [q1, Bool.false_and] at hin
        have HIN := Lib.hid hin; clear hin
        cases inn
        · have hbk : (Ma.inT lo hi t == false) = true := by rw [HIN.out]; rfl
          have hyk := HY.out hbk
          have HYK := Lib.hid hyk; clear hyk hbk
          go_wp2_with (at_builtin; go_must (refine wpList_append_own _ rfl _ _ 38 rfl w.heap.size 52 i0 (.agg #[.int .i64 0, .int .u64 0]) 2 16 Try.underlying38 hi0 hz0 hz1 hz2 rfl (by decide) _ _ _ rfl (HO.out.alloc _) ⟨wr.heap.size, 0, none⟩ 1 1 [.int .i64 t, .int .u64 u] rfl rfl (cells_new _ _ _) (by simp [Value.oneCell']) HB1.out HB2.out HB3.out ?_); intro v5 w5 hown5 hgr5 _; have HOWN5 := Lib.hid hown5; have HG5 := Lib.hid hgr5; clear hown5 hgr5)
          go_roundw
          case rel =>
            refine ⟨k + 1, by omega, by go_num, ?_, (HB.out.alloc HB.out.size _).grown HG5.out (by have := HB.out.size; simp; omega) (fun b hv => (HO.out.lt b hv).1)⟩
            rw [HYK.out, List.length_append, List.flatMap_append]
            have e9 : [k].flatMap (fun i => [sx s i 0, sx s i 1]) = [.int .i64 t, .int .u64 u] := by
              simp only [List.flatMap_cons, List.flatMap_nil, List.append_nil]
              rw [HX.out.1, HX.out.2]
            rw [e9]; exact HOWN5.out
          case measure => simp [intOf]; omega
        · have hbk : (Ma.inT lo hi t == true) = false := by rw [HIN.out]; rfl
          have hnk := HN.out hbk
          have HNK := Lib.hid hnk; clear hnk hbk
          go_wp2_with fail
          go_roundw
          case rel => exact ⟨k + 1, by omega, by go_num, by rw [HNK.out]; exact HO.out, HB.out⟩
          case measure => simp [intOf]; omega
      · cases q2 : decide (t ≤ hi)
        · rw [q1, q2, Bool.and_false] at hin
          have HIN := Lib.hid hin; clear hin
          cases inn
          · have hbk : (Ma.inT lo hi t == false) = true := by rw [HIN.out]; rfl
            have hyk := HY.out hbk
            have HYK := Lib.hid hyk; clear hyk hbk
            go_wp2_with (at_builtin; go_must (refine wpList_append_own _ rfl _ _ 38 rfl w.heap.size 52 i0 (.agg #[.int .i64 0, .int .u64 0]) 2 16 Try.underlying38 hi0 hz0 hz1 hz2 rfl (by decide) _ _ _ rfl (HO.out.alloc _) ⟨wr.heap.size, 0, none⟩ 1 1 [.int .i64 t, .int .u64 u] rfl rfl (cells_new _ _ _) (by simp [Value.oneCell']) HB1.out HB2.out HB3.out ?_); intro v5 w5 hown5 hgr5 _; have HOWN5 := Lib.hid hown5; have HG5 := Lib.hid hgr5; clear hown5 hgr5)
            go_roundw
            case rel =>
              refine ⟨k + 1, by omega, by go_num, ?_, (HB.out.alloc HB.out.size _).grown HG5.out (by have := HB.out.size; simp; omega) (fun b hv => (HO.out.lt b hv).1)⟩
              rw [HYK.out, List.length_append, List.flatMap_append]
              have e9 : [k].flatMap (fun i => [sx s i 0, sx s i 1]) = [.int .i64 t, .int .u64 u] := by
                simp only [List.flatMap_cons, List.flatMap_nil, List.append_nil]
                rw [HX.out.1, HX.out.2]
              rw [e9]; exact HOWN5.out
            case measure => simp [intOf]; omega
          · have hbk : (Ma.inT lo hi t == true) = false := by rw [HIN.out]; rfl
            have hnk := HN.out hbk
            have HNK := Lib.hid hnk; clear hnk hbk
            go_wp2_with fail
            go_roundw
            case rel => exact ⟨k + 1, by omega, by go_num, by rw [HNK.out]; exact HO.out, HB.out⟩
            case measure => simp [intOf]; omega
        · rw [q1, q2, Bool.and_true] at hin
          have HIN := Lib.hid hin; clear hin
          cases inn
          · have hbk : (Ma.inT lo hi t == false) = false := by rw [HIN.out]; rfl
            have hnk := HN.out hbk
            have HNK := Lib.hid hnk; clear hnk hbk
            go_wp2_with fail
            go_roundw
            case rel => exact ⟨k + 1, by omega, by go_num, by rw [HNK.out]; exact HO.out, HB.out⟩
            case measure => simp [intOf]; omega
          · have hbk : (Ma.inT lo hi t == true) = true := by rw [HIN.out]; rfl
            have hyk := HY.out hbk
            have HYK := Lib.hid hyk; clear hyk hbk
            go_wp2_with (at_builtin; go_must (refine wpList_append_own _ rfl _ _ 38 rfl w.heap.size 52 i0 (.agg #[.int .i64 0, .int .u64 0]) 2 16 Try.underlying38 hi0 hz0 hz1 hz2 rfl (by decide) _ _ _ rfl (HO.out.alloc _) ⟨wr.heap.size, 0, none⟩ 1 1 [.int .i64 t, .int .u64 u] rfl rfl (cells_new _ _ _) (by simp [Value.oneCell']) HB1.out HB2.out HB3.out ?_); intro v5 w5 hown5 hgr5 _; have HOWN5 := Lib.hid hown5; have HG5 := Lib.hid hgr5; clear hown5 hgr5)
            go_roundw
            case rel =>
              refine ⟨k + 1, by omega, by go_num, ?_, (HB.out.alloc HB.out.size _).grown HG5.out (by have := HB.out.size; simp; omega) (fun b hv => (HO.out.lt b hv).1)⟩
              rw [HYK.out, List.length_append, List.flatMap_append]
              have e9 : [k].flatMap (fun i => [sx s i 0, sx s i 1]) = [.int .i64 t, .int .u64 u] := by
                simp only [List.flatMap_cons, List.flatMap_nil, List.append_nil]
                rw [HX.out.1, HX.out.2]
              rw [e9]; exact HOWN5.out
            case measure => simp [intOf]; omega
    · obtain rfl : k = n := by omega
      have j1 : ¬ (k : Int) < (k : Int) := by omega
      clear hown
      go_wp2_with fail
      go_ret
      exact ⟨_, rfl, HO.out, HB.out⟩
theorem Ma.eqb_true (b : Bool) : (b == true) = b := by cases b <;> rfl
theorem Ma.eqb_false (b : Bool) : (b == false) = !b := by cases b <;> rfl
set_option maxRecDepth 100000 in
set_option maxHeartbeats 2000000 in
theorem matchBetween_walk0 (w : World) (A : Option Addr) (n c : Nat) (s : Nat → Sam) (hn : n ≤ maxLen) (hA : Row 2 (sx s) w A n) (lo hi : Int) :
    Calls Try.prog 4 #[.slice A n c, .int .i64 lo, .int .i64 hi] w fun e w' => e = .returned (.bool true) ∧ Below w.heap.size w w' := by
  have R0 := Lib.hid hA; have B0 := Lib.hid (Below.refl w.heap.size w); clear hA
  unfold maxLen at hn
  by_cases h60 : 60 < n
  · have d0 : decide ((60 : Int) < (n : Int)) = true := by simp; omega
    go_enter Try.func4, Try.ntmps4
    go_wp2_with fail
    refine (works_any _).mono ?_; rintro e w1 ⟨rfl, hb1⟩
    have B1 := Lib.hid (below_step B0.out hb1); clear hb1 B0 R0
    go_wp2_with fail
    go_ret
    exact ⟨rfl, B1.out⟩
  have d0 : decide ((60 : Int) < (n : Int)) = false := by simp; omega
  have K1 := fun W (hW : Row 2 (sx s) W A n) => Between_any A n c (by omega) s lo hi W hW
  have K2 := fun W (hW : Row 2 (sx s) W A n) => Without_any A n c (by omega) s lo hi W hW
  have K3 := fun W (hW : Row 2 (sx s) W A n) => Sorted_any A n c (by omega) s W hW
  have K4 := fun W (hW : Row 2 (sx s) W A n) => rSorted_any A n c (by omega) s W hW
  have K5 := fun W (hW : Row 2 (sx s) W A n) => rBetween_any A n c (by omega) s lo hi true W hW
  have K6 := fun W (hW : Row 2 (sx s) W A n) => rBetween_any A n c (by omega) s lo hi false W hW
  simp only [Ma.eqb_true] at K5
  simp only [Ma.eqb_false] at K6
  have hna := Ma.sel_length (fun i => Ma.inT lo hi (s i).t) n
  have hnb := Ma.sel_length (fun i => !Ma.inT lo hi (s i).t) n
  generalize Ma.sel (fun i => Ma.inT lo hi (s i).t) n = La at *
  generalize Ma.sel (fun i => !Ma.inT lo hi (s i).t) n = Lb at *
  generalize Ma.rising s n = rs at *
  have KS := fun (L : List Nat) (hL : L.length ≤ n) (W : World) A1 A2 c1 c2 (h1 : Row 2 (sx (fun j => s (L.getD j 0))) W A1 L.length) (h2 : Row 2 (sx (fun j => s (L.getD j 0))) W A2 L.length) => rSamS_any A1 A2 L.length c1 c2 (by omega) _ W h1 h2
  have C1 := Lib.hid K1; have C2 := Lib.hid K2; have C3 := Lib.hid K3; have C4 := Lib.hid K4; have C5 := Lib.hid K5; have C6 := Lib.hid K6; have CS := Lib.hid KS
  have HNA := Lib.hid hna; have HNB := Lib.hid hnb
  have hrs : (rs == rs) = true := by simp
  clear K1 K2 K3 K4 K5 K6 KS hna hnb h60
  go_enter Try.func4, Try.ntmps4
  go_wp2_with fail
  refine (works_any _).mono ?_; rintro e w1 ⟨rfl, hb1⟩
  have B1 := Lib.hid (below_step B0.out hb1); have R1 := Lib.hid (R0.out.later hb1); clear hb1 B0 R0
  go_wp2_with fail
  refine (C1.out _ R1.out).mono ?_; rintro e w2 ⟨v2, rfl, ho2, hb2⟩
  obtain ⟨A2, c2, rfl, hr2⟩ := own_sams ho2
  have B2 := Lib.hid (below_step B1.out hb2); have R2 := Lib.hid (R1.out.later hb2); have P2 := Lib.hid hr2; clear hb2 ho2 hr2 B1 R1
  go_wp2_with fail
  refine (C2.out _ R2.out).mono ?_; rintro e w3 ⟨v3, rfl, ho3, hb3⟩
  obtain ⟨A3, c3, rfl, hr3⟩ := own_sams ho3
  have B3 := Lib.hid (below_step B2.out hb3); have R3 := Lib.hid (R2.out.later hb3); have P3 := Lib.hid (P2.out.later hb3); have Q3 := Lib.hid hr3; clear hb3 ho3 hr3 B2 R2 P2
  go_wp2_with fail
  refine (C5.out _ R3.out).mono ?_; rintro e w4 ⟨v4, rfl, ho4, hb4⟩
  obtain ⟨A4, c4, rfl, hr4⟩ := own_sams ho4
  have B4 := Lib.hid (below_step B3.out hb4); have R4 := Lib.hid (R3.out.later hb4); have P4 := Lib.hid (P3.out.later hb4); have Q4 := Lib.hid (Q3.out.later hb4); have T4 := Lib.hid hr4; clear hb4 ho4 hr4 B3 R3 P3 Q3
  go_wp2_with fail
  refine (CS.out La HNA.out _ _ _ _ _ P4.out T4.out).mono ?_; rintro e w5 ⟨rfl, hb5⟩
  have B5 := Lib.hid (below_step B4.out hb5); have R5 := Lib.hid (R4.out.later hb5); have Q5 := Lib.hid (Q4.out.later hb5); clear hb5 B4 R4 P4 Q4 T4
  go_wp2_with fail
  refine (C6.out _ R5.out).mono ?_; rintro e w6 ⟨v6, rfl, ho6, hb6⟩
  obtain ⟨A6, c6, rfl, hr6⟩ := own_sams ho6
  have B6 := Lib.hid (below_step B5.out hb6); have R6 := Lib.hid (R5.out.later hb6); have Q6 := Lib.hid (Q5.out.later hb6); have T6 := Lib.hid hr6; clear hb6 ho6 hr6 B5 R5 Q5
  go_wp2_with fail
  refine (CS.out Lb HNB.out _ _ _ _ _ Q6.out T6.out).mono ?_; rintro e w7 ⟨rfl, hb7⟩
  have B7 := Lib.hid (below_step B6.out hb7); have R7 := Lib.hid (R6.out.later hb7); clear hb7 B6 R6 Q6 T6
  go_wp2_with fail
  refine (C3.out _ R7.out).mono ?_; rintro e w8 ⟨rfl, hd8⟩
  have hb8 : Below w7.heap.size w7 w8 := (Below.refl _ _).grown (hd8.grown none) (Nat.le_refl _) (fun r e => by cases e)
  have B8 := Lib.hid (below_step B7.out hb8); have R8 := Lib.hid (R7.out.later hb8); clear hb8 hd8 B7 R7
  go_wp2_with fail
  refine (C4.out _ R8.out).mono ?_; rintro e w9 ⟨rfl, hd9⟩
  have B9 := Lib.hid (B8.out.grown (hd9.grown none) B8.out.size (fun r e => by cases e)); clear hd9
  go_wp2_with fail
  go_ret
  exact ⟨rfl, B9.out⟩
theorem matchBetween_walk {H : Type} {enc : TypeId × Value → H} {r : Reach} {b0 : Nat} {v : Value} {d : DataW H} {p : List MemPlace} (w : World)
    (hv : Value.okWide Try.prog w r b0 38 v) (h : DataW.Trod enc Try.prog w 0 (fun _ => true) true 38 v d p) (lo : Int) (_hl : (Lit.int .i64 lo).wf = true) (hi : Int) (_hh : (Lit.int .i64 hi).wf = true) :
    Calls Try.prog 4 #[v, .int .i64 lo, .int .i64 hi] w fun e w' => e = .returned (.bool true) ∧ Below w.heap.size w w' := by
  obtain ⟨A, n, c, s, rfl, hn, hA⟩ := open_sams hv h
  exact matchBetween_walk0 w A n c s hn hA lo hi
end Go.Proofs.Ytcdlkiephdghlaa
