/-
  MatchFits: the walk of the law.
-/
import Derived.Test.YtcdlkiephdghlaaMaPA
import Derived.Test.YtcdlkiephdghlaaMaPB
namespace Go.Proofs.Ytcdlkiephdghlaa
open Go.RowKit
set_option maxRecDepth 100000 in
set_option maxHeartbeats 8000000 in
theorem matchFits_walk0 (w : World) (B : Option Addr) (k cm : Nat) (m : Nat → Mat) (hk : k ≤ maxLen) (hs : ∀ i, i < k → (m i).n.size ≤ maxLen ∧ (m i).v.size ≤ maxLen) (hB : Row 3 (mx m) w B k) (C : Option Addr) (n c : Nat) (q : Nat → LabS) (hn : n ≤ maxLen) (hC : Row 1 (lx (fun i => (q i).A) (fun i => (q i).n) (fun i => (q i).c)) w C n)
    (hq : ∀ i, i < n → (q i).n ≤ maxLen ∧ (∀ j, j < (q i).n → ((q i).f j).1.size ≤ maxLen ∧ ((q i).f j).2.size ≤ maxLen) ∧ LabRow w (q i).A (q i).n (q i).f) :
    Calls Try.prog 3 #[.slice B k cm, .slice C n c] w fun e w' => e = .returned (.bool true) ∧ Below w.heap.size w w' := by
  have RB := Lib.hid hB; have RC := Lib.hid hC; have RQ := Lib.hid hq; have B0 := Lib.hid (Below.refl w.heap.size w); clear hB hC hq
  have hfew := fun W (hW : Row 3 (mx m) W B k) => MFew_any B k cm hk m W hW
  cases hf : La.few (Ma.lab m) k
  · rw [hf] at hfew
    have HF := Lib.hid hfew; clear hfew hf hs
    go_enter Try.func3, Try.ntmps3
    go_wp2_with fail
    refine (works_any _).mono ?_; rintro e w1 ⟨rfl, hb1⟩
    have B1 := Lib.hid (below_step B0.out hb1); clear hb1 B0
    go_wp2_with fail
    refine (HF.out _ (RB.out.later B1.out)).mono ?_; rintro e w2 ⟨rfl, hb2⟩
    have B2 := Lib.hid (below_step B1.out hb2); clear hb2 B1
    go_wp2_with fail
    go_ret
    exact ⟨rfl, B2.out⟩
  rw [hf] at hfew
  have hk10 := (La.few_yes hf).1
  have HF := Lib.hid hfew; clear hfew hf
  by_cases h60 : 60 < n
  · have d1 : decide ((60 : Int) < (n : Int)) = true := by simp; omega
    go_enter Try.func3, Try.ntmps3
    go_wp2_with fail
    refine (works_any _).mono ?_; rintro e w1 ⟨rfl, hb1⟩
    have B1 := Lib.hid (below_step B0.out hb1); clear hb1 B0
    go_wp2_with fail
    refine (HF.out _ (RB.out.later B1.out)).mono ?_; rintro e w2 ⟨rfl, hb2⟩
    have B2 := Lib.hid (below_step B1.out hb2); clear hb2 B1
    go_wp2_with fail
    go_ret
    exact ⟨rfl, B2.out⟩
  have d1 : decide ((60 : Int) < (n : Int)) = false := by simp; omega
  have hck := fun W (hW : Below w.heap.size w W) => MCheck_any B k cm (by omega) m hs W (RB.out.later hW)
  have hal := fun W (hW : Below w.heap.size w W) => rAllRight_any B k cm (by omega) m hs W (RB.out.later hW)
  generalize Ma.allRight m k = b at *
  have HCK := Lib.hid hck; have HAR := Lib.hid hal; have HER : Hid (∀ b : Bool, (((Ma.err b : Nat) : Int) == ((Ma.err b : Nat) : Int)) = true) := Lib.hid (fun b => by simp)
  clear hck hal hs
  go_enter Try.func3, Try.ntmps3
  go_wp2_with fail
  refine (works_any _).mono ?_; rintro e w1 ⟨rfl, hb1⟩
  have B1 := Lib.hid (below_step B0.out hb1); clear hb1 B0
  go_wp2_with fail
  refine (HF.out _ (RB.out.later B1.out)).mono ?_; rintro e w2 ⟨rfl, hb2⟩
  have B2 := Lib.hid (below_step B1.out hb2); clear hb2 B1
  go_wp2_with fail
  refine (HAR.out _ B2.out).mono ?_; rintro e w3 ⟨rfl, hb3⟩
  have B3 := Lib.hid (below_step B2.out hb3); clear hb3 B2 HF HAR d1
  cases b
  · have hc := fun W hW => HCK.out W hW
    rw [show ((Ma.err false : Nat) : Int) = 1 from rfl] at hc
    have CC := Lib.hid hc
    clear hc HCK
    go_wp2_with fail
    go_loopw [9] (fun i wr => ∃ p : Nat, p ≤ n ∧ i = .int .i64 p ∧ (∀ j, j < p → La.few (q j).f (q j).n = true) ∧ Below w.heap.size w wr) (fun i _ => n - (intOf i).toNat)
    case atStart => exact ⟨0, Nat.zero_le _, rfl, (fun j hj => absurd hj (by omega)), B3.out⟩
    case round =>
      obtain ⟨p, hp, rfl, hall, hb⟩ := hrel
      have HE := Lib.hid hall; have HB := Lib.hid hb; clear hall hb B3
      by_cases hlt : p < n
      · obtain ⟨ad, rfl, c0, -⟩ := RC.out.at_ HB.out hlt
        obtain ⟨h1, h2, h3⟩ := RQ.out p hlt
        have e0 : wr.cell? (ad.add p) = some (.slice (q p).A (q p).n (q p).c) := by have := c0 (by omega); rw [Nat.mul_one] at this; exact this
        have hfp := Few_any (q p).A (q p).n (q p).c h1 (q p).f wr (h3.later HB.out)
        have i1 : (p : Int) < (n : Int) := by omega
        have i0 : (0 : Int) ≤ (p : Int) := by omega
        cases hfw : La.few (q p).f (q p).n
        · rw [hfw] at hfp
          have HP := Lib.hid hfp; clear hfp hfw c0 h1 h2 h3
          generalize (q p).A = qa at *
          generalize (q p).n = qn at *
          generalize (q p).c = qc at *
          go_wp2_with fail
          refine HP.out.mono ?_; rintro e w4 ⟨rfl, hb4⟩
          have B4 := Lib.hid (below_step HB.out hb4); clear hb4
          go_wp2_with fail
          go_ret
          exact ⟨rfl, B4.out⟩
        · rw [hfw] at hfp
          have hq10 := (La.few_yes hfw).1
          have HW := Lib.hid hfw
          have HP := Lib.hid hfp
          have hall1 := fun U (hU : Below w.heap.size w U) => All_any B k cm (by omega) m (q p).A (q p).n (q p).c (by omega) (q p).f U (RB.out.later hU) (h3.later hU)
          have hall2 := fun U (hU : Below w.heap.size w U) => rAll_any B k cm (by omega) m (q p).A (q p).n (q p).c (by omega) (q p).f U (RB.out.later hU) (h3.later hU)
          have hfit1 := fun z U (hU : Below w.heap.size w U) => Fits_any (m z) (q p).A (q p).n (q p).c (by omega) (q p).f U (h3.later hU)
          have hfit2 := fun z U (hU : Below w.heap.size w U) => rFits_any (m z) (q p).A (q p).n (q p).c (by omega) (q p).f U (h3.later hU)
          have hat : ∀ U, Below w.heap.size w U → U.cell? (ad.add p) = some (.slice (q p).A (q p).n (q p).c) := fun U hU => by
            obtain ⟨ad2, e, c9, -⟩ := RC.out.at_ hU hlt
            cases e
            have := c9 (by omega); rw [Nat.mul_one] at this; exact this
          simp only [Mat.val] at hfit1 hfit2
          have HA1 := Lib.hid hall1; have HA2 := Lib.hid hall2; have HF1 := Lib.hid hfit1; have HF2 := Lib.hid hfit2; have HAT := Lib.hid hat
          clear hall1 hall2 hfit1 hfit2 hat hfw hfp c0 h1 h2 h3
          have HQN := Lib.hid (Eq.refl (q p).n)
          generalize hqf : (q p).f = qf at *
          generalize hqa : (q p).A = qa at *
          generalize hqn : (q p).n = qn at *
          generalize hqc : (q p).c = qc at *
          have HQF := Lib.hid (And.intro hqf hqn); clear hqf hqa hqn hqc HQN
          go_wp2_with fail
          refine HP.out.mono ?_; rintro e w4 ⟨rfl, hb4⟩
          have B4 := Lib.hid (below_step HB.out hb4); clear hb4 e0 HP
          go_upto_region 17 with fail
          have hS := B4.out.drew
          clear B4
          refine plain_held (fun U => Below w.heap.size w U) (by kernel_rfl) ?_
          generalize w4.drew = wd at *
          generalize Ma.all m k qf qn = x at *
          refine wpAnyH_pick (by kernel_rfl) Only.panic (w := wd) hS [0, 1, 2, 3, 4, 6, 7, 8, 9, 10] 3 _ _ (by kernel_rfl) ?_
          refine PickOk.value (d := some 42) (v := .slice B k cm) rfl rfl (by kernel_rfl) (fun U hU => (by go_simp)) ?_
          refine PickOk.value (d := some 43) (v := .slice (some ad) n c) rfl rfl (by kernel_rfl) (fun U hU => (by go_simp)) ?_
          refine PickOk.value (d := some 44) (v := .int .i64 p) rfl rfl (by kernel_rfl) (fun U hU => (by go_simp)) ?_
          refine PickOk.value (d := some 45) (v := .pointer (some (ad.add p))) rfl rfl (by kernel_rfl) (fun U hU => (by go_simp)) ?_
          refine PickOk.value (d := some 46) (v := .slice qa qn qc) rfl rfl (by kernel_rfl) (fun U hU => (by have e9 := HAT.out U hU; go_simp)) ?_
          refine PickOk.value (d := some 48) (v := .slice B k cm) rfl rfl (by kernel_rfl) (fun U hU => (by go_simp)) ?_
          refine PickOk.value (d := some 49) (v := .slice (some ad) n c) rfl rfl (by kernel_rfl) (fun U hU => (by go_simp)) ?_
          refine PickOk.value (d := some 50) (v := .int .i64 p) rfl rfl (by kernel_rfl) (fun U hU => (by go_simp)) ?_
          refine PickOk.value (d := some 51) (v := .pointer (some (ad.add p))) rfl rfl (by kernel_rfl) (fun U hU => (by go_simp)) ?_
          refine PickOk.value (d := some 52) (v := .slice qa qn qc) rfl rfl (by kernel_rfl) (fun U hU => (by have e9 := HAT.out U hU; go_simp)) ?_
          simp only [PickOk, Act.put, List.setIfInBounds_toArray, List.set_cons_zero, List.set_cons_succ]
          refine wpAnyH_one (i := 5) (by kernel_rfl) rfl (by kernel_rfl) ?_
          intro K hK
          unfold Oper.wp
          go_simp
          refine (HA1.out _ hS).mono ?_; rintro e w7 ⟨rfl, hb7⟩
          have hS7 := below_step hS hb7
          refine hK _ _ hS7 (fun _ => ?_)
          clear hK K hS hb7
          refine wpAnyH_one (i := 11) (by kernel_rfl) rfl (by kernel_rfl) ?_
          intro K hK
          unfold Oper.wp
          go_simp
          refine (HA2.out _ hS7).mono ?_; rintro e w8 ⟨rfl, hb8⟩
          have hS8 := below_step hS7 hb8
          refine hK _ _ hS8 (fun _ => ?_)
          clear hK K hS7 hb8
          refine wpAnyH_pick (by kernel_rfl) Only.panic (w := w8) hS8 [12] 0 _ _ (by kernel_rfl) ?_
          refine PickOk.value (d := some 54) (v := .bool false) rfl rfl (by kernel_rfl) (fun U hU => (by cases x <;> go_simp)) ?_
          simp only [PickOk, Act.put, List.setIfInBounds_toArray, List.set_cons_zero, List.set_cons_succ]
          refine wpAnyH_done (by kernel_rfl) ?_ _
          refine Only.next ?_
          have B8 := Lib.hid hS8
          clear hS8 HA1 HA2
          go_wp2_with fail
          go_loopw [11] (fun i wx => ∃ z : Nat, z ≤ k ∧ i = .int .i64 z ∧ Below w.heap.size w wx) (fun i _ => k - (intOf i).toNat)
          case atStart => exact ⟨0, Nat.zero_le _, rfl, B8.out⟩
          case round =>
            obtain ⟨z, hz, rfl, hbx⟩ := hrel
            have BX := Lib.hid hbx; clear hbx B8
            by_cases hzk : z < k
            · obtain ⟨bd, rfl, -, -⟩ := RB.out.at_ BX.out hzk
              have hmt : ∀ U, Below w.heap.size w U → U.cell? (bd.add (z * 3)) = some (.int .i64 (m z).k) ∧ U.cell? ⟨(bd.add (z * 3)).block, (bd.add (z * 3)).off + 1, none⟩ = some (.string (m z).n) ∧ U.cell? ⟨(bd.add (z * 3)).block, (bd.add (z * 3)).off + 2, none⟩ = some (.string (m z).v) := fun U hU => by
                obtain ⟨bd2, e, c8, c9⟩ := RB.out.at_ hU hzk
                cases e
                exact ⟨c8 (by omega), c9 1 (by omega) (by omega), c9 2 (by omega) (by omega)⟩
              have hf1 := fun U hU => HF1.out z U hU
              have hf2 := fun U hU => HF2.out z U hU
              have HMT := Lib.hid hmt; have G1 := Lib.hid hf1; have G2 := Lib.hid hf2
              clear hmt hf1 hf2
              have z1 : (z : Int) < (k : Int) := by omega
              have z0 : (0 : Int) ≤ (z : Int) := by omega
              generalize Ma.fits (m z) qf qn = x at *
              generalize (m z).k = xk at *
              generalize (m z).n = xn at *
              generalize (m z).v = xv at *
              go_upto_region 22 with fail
              have hS := BX.out.drew
              clear BX
              refine plain_held (fun U => Below w.heap.size w U) (by kernel_rfl) ?_
              generalize wr.drew = wd2 at *
              refine wpAnyH_pick (by kernel_rfl) Only.panic (w := wd2) hS [0, 1, 2, 3, 4, 5, 6, 7, 9, 10, 11, 12, 13, 14, 15, 16] 3 _ _ (by kernel_rfl) ?_
              refine PickOk.value (d := some 61) (v := .slice (some bd) k cm) rfl rfl (by kernel_rfl) (fun U hU => (by go_simp)) ?_
              refine PickOk.value (d := some 62) (v := .int .i64 z) rfl rfl (by kernel_rfl) (fun U hU => (by go_simp)) ?_
              refine PickOk.value (d := some 63) (v := .pointer (some (bd.add (z * 3)))) rfl rfl (by kernel_rfl) (fun U hU => (by go_simp)) ?_
              refine PickOk.value (d := some 64) (v := .agg #[.int .i64 xk, .string xn, .string xv]) rfl rfl (by kernel_rfl) (fun U hU => (by obtain ⟨m0, m1, m2⟩ := HMT.out U hU; go_simp)) ?_
              refine PickOk.value (d := some 65) (v := .slice (some ad) n c) rfl rfl (by kernel_rfl) (fun U hU => (by go_simp)) ?_
              refine PickOk.value (d := some 66) (v := .int .i64 p) rfl rfl (by kernel_rfl) (fun U hU => (by go_simp)) ?_
              refine PickOk.value (d := some 67) (v := .pointer (some (ad.add p))) rfl rfl (by kernel_rfl) (fun U hU => (by go_simp)) ?_
              refine PickOk.value (d := some 68) (v := .slice qa qn qc) rfl rfl (by kernel_rfl) (fun U hU => (by have e9 := HAT.out U hU; go_simp)) ?_
              refine PickOk.value (d := some 70) (v := .slice (some bd) k cm) rfl rfl (by kernel_rfl) (fun U hU => (by go_simp)) ?_
              refine PickOk.value (d := some 71) (v := .int .i64 z) rfl rfl (by kernel_rfl) (fun U hU => (by go_simp)) ?_
              refine PickOk.value (d := some 72) (v := .pointer (some (bd.add (z * 3)))) rfl rfl (by kernel_rfl) (fun U hU => (by go_simp)) ?_
              refine PickOk.value (d := some 73) (v := .agg #[.int .i64 xk, .string xn, .string xv]) rfl rfl (by kernel_rfl) (fun U hU => (by obtain ⟨m0, m1, m2⟩ := HMT.out U hU; go_simp)) ?_
              refine PickOk.value (d := some 74) (v := .slice (some ad) n c) rfl rfl (by kernel_rfl) (fun U hU => (by go_simp)) ?_
              refine PickOk.value (d := some 75) (v := .int .i64 p) rfl rfl (by kernel_rfl) (fun U hU => (by go_simp)) ?_
              refine PickOk.value (d := some 76) (v := .pointer (some (ad.add p))) rfl rfl (by kernel_rfl) (fun U hU => (by go_simp)) ?_
              refine PickOk.value (d := some 77) (v := .slice qa qn qc) rfl rfl (by kernel_rfl) (fun U hU => (by have e9 := HAT.out U hU; go_simp)) ?_
              simp only [PickOk, Act.put, List.setIfInBounds_toArray, List.set_cons_zero, List.set_cons_succ]
              refine wpAnyH_one (i := 8) (by kernel_rfl) rfl (by kernel_rfl) ?_
              intro K hK
              unfold Oper.wp
              go_simp
              refine (G1.out _ hS).mono ?_; rintro e w17 ⟨rfl, hb7⟩
              have hS7 := below_step hS hb7
              refine hK _ _ hS7 (fun _ => ?_)
              clear hK K hS hb7
              refine wpAnyH_one (i := 17) (by kernel_rfl) rfl (by kernel_rfl) ?_
              intro K hK
              unfold Oper.wp
              go_simp
              refine (G2.out _ hS7).mono ?_; rintro e w18 ⟨rfl, hb8⟩
              have hS8 := below_step hS7 hb8
              refine hK _ _ hS8 (fun _ => ?_)
              clear hK K hS7 hb8
              refine wpAnyH_pick (by kernel_rfl) Only.panic (w := w18) hS8 [18] 0 _ _ (by kernel_rfl) ?_
              refine PickOk.value (d := some 79) (v := .bool false) rfl rfl (by kernel_rfl) (fun U hU => (by cases x <;> go_simp)) ?_
              simp only [PickOk, Act.put, List.setIfInBounds_toArray, List.set_cons_zero, List.set_cons_succ]
              refine wpAnyH_done (by kernel_rfl) ?_ _
              refine Only.next ?_
              have B18 := Lib.hid hS8
              clear hS8
              go_wp2_with fail
              go_roundw
              case rel => exact ⟨z + 1, by omega, by go_num, B18.out⟩
              case measure => simp [intOf]; omega
            · obtain rfl : z = k := by omega
              have z1 : ¬ (z : Int) < (z : Int) := by omega
              go_wp2_with fail
              go_roundw
              case rel => exact ⟨p + 1, by omega, by go_num, fun j hj => (by
                rcases Nat.lt_or_ge j p with h1 | h1
                · exact HE.out j h1
                · obtain rfl : j = p := by omega
                  rw [HQF.out.1, HQF.out.2]; exact HW.out), BX.out⟩
              case measure => simp [intOf]; omega
      · obtain rfl : p = n := by omega
        have i1 : ¬ (p : Int) < (p : Int) := by omega
        have hq10 : ∀ i, i < p → (q i).n ≤ 1000000 := fun i hi => by have := (La.few_yes (HE.out i hi)).1; omega
        have hsel := fun W (hW : Below w.heap.size w W) => Select_any B k cm (by omega) m C p c (by omega) (fun i => (q i).A) (fun i => (q i).n) (fun i => (q i).c) (fun i => (q i).f) hq10 W (RB.out.later hW) (RC.out.later hW) (fun i hi => (RQ.out i hi).2.2.later hW)
        have hrsel := fun W (hW : Below w.heap.size w W) => rSelect_any B k cm (by omega) m C p c (by omega) (fun i => (q i).A) (fun i => (q i).n) (fun i => (q i).c) (fun i => (q i).f) hq10 W (RB.out.later hW) (RC.out.later hW) (fun i hi => (RQ.out i hi).2.2.later hW)
        have hln := Ma.sel_length (fun i => Ma.all m k (q i).f (q i).n) p
        generalize Ma.sel (fun i => Ma.all m k (q i).f (q i).n) p = L at *
        have hrow := fun W A1 A2 c1 c2 (h1 : Row 1 (fun j _ => .int .i64 ((L.getD j 0 : Nat) : Int)) W A1 L.length) (h2 : Row 1 (fun j _ => .int .i64 ((L.getD j 0 : Nat) : Int)) W A2 L.length) => rRow_any A1 A2 L.length c1 c2 (by omega) (fun j => ((L.getD j 0 : Nat) : Int)) W h1 h2
        have HS := Lib.hid hsel; have HRS := Lib.hid hrsel; have HROW := Lib.hid hrow
        clear hsel hrsel hrow hq10 hln
        go_wp2_with fail
        refine (CC.out _ HB.out).mono ?_; rintro e w4 ⟨rfl, hb4⟩
        have B4 := Lib.hid (below_step HB.out hb4); clear hb4 HB
        go_wp2_with fail
        refine (HS.out _ B4.out).mono ?_; rintro e w5 ⟨v5, rfl, ho5, hb5⟩
        obtain ⟨A5, c5, rfl, hr5⟩ := own_ints ho5
        have B5 := Lib.hid (below_step B4.out hb5); have R5 := Lib.hid hr5; clear hb5 ho5 hr5 B4
        go_wp2_with fail
        refine (HRS.out _ B5.out).mono ?_; rintro e w6 ⟨v6, rfl, ho6, hb6⟩
        obtain ⟨A6, c6, rfl, hr6⟩ := own_ints ho6
        have B6 := Lib.hid (below_step B5.out hb6); have R6 := Lib.hid (R5.out.later hb6); have S6 := Lib.hid hr6; clear hb6 ho6 hr6 B5 R5
        go_wp2_with fail
        refine (HROW.out _ _ _ _ _ R6.out S6.out).mono ?_; rintro e w7 ⟨rfl, hb7⟩
        have B7 := Lib.hid (below_step B6.out hb7); clear hb7
        go_wp2_with fail
        go_ret
        exact ⟨rfl, B7.out⟩
  · have hc := fun W hW => HCK.out W hW
    rw [show ((Ma.err true : Nat) : Int) = 0 from rfl] at hc
    have CC := Lib.hid hc
    clear hc HCK
    go_wp2_with fail
    go_loopw [9] (fun i wr => ∃ p : Nat, p ≤ n ∧ i = .int .i64 p ∧ (∀ j, j < p → La.few (q j).f (q j).n = true) ∧ Below w.heap.size w wr) (fun i _ => n - (intOf i).toNat)
    case atStart => exact ⟨0, Nat.zero_le _, rfl, (fun j hj => absurd hj (by omega)), B3.out⟩
    case round =>
      obtain ⟨p, hp, rfl, hall, hb⟩ := hrel
      have HE := Lib.hid hall; have HB := Lib.hid hb; clear hall hb B3
      by_cases hlt : p < n
      · obtain ⟨ad, rfl, c0, -⟩ := RC.out.at_ HB.out hlt
        obtain ⟨h1, h2, h3⟩ := RQ.out p hlt
        have e0 : wr.cell? (ad.add p) = some (.slice (q p).A (q p).n (q p).c) := by have := c0 (by omega); rw [Nat.mul_one] at this; exact this
        have hfp := Few_any (q p).A (q p).n (q p).c h1 (q p).f wr (h3.later HB.out)
        have i1 : (p : Int) < (n : Int) := by omega
        have i0 : (0 : Int) ≤ (p : Int) := by omega
        cases hfw : La.few (q p).f (q p).n
        · rw [hfw] at hfp
          have HP := Lib.hid hfp; clear hfp hfw c0 h1 h2 h3
          generalize (q p).A = qa at *
          generalize (q p).n = qn at *
          generalize (q p).c = qc at *
          go_wp2_with fail
          refine HP.out.mono ?_; rintro e w4 ⟨rfl, hb4⟩
          have B4 := Lib.hid (below_step HB.out hb4); clear hb4
          go_wp2_with fail
          go_ret
          exact ⟨rfl, B4.out⟩
        · rw [hfw] at hfp
          have hq10 := (La.few_yes hfw).1
          have HW := Lib.hid hfw
          have HP := Lib.hid hfp
          have hall1 := fun U (hU : Below w.heap.size w U) => All_any B k cm (by omega) m (q p).A (q p).n (q p).c (by omega) (q p).f U (RB.out.later hU) (h3.later hU)
          have hall2 := fun U (hU : Below w.heap.size w U) => rAll_any B k cm (by omega) m (q p).A (q p).n (q p).c (by omega) (q p).f U (RB.out.later hU) (h3.later hU)
          have hfit1 := fun z U (hU : Below w.heap.size w U) => Fits_any (m z) (q p).A (q p).n (q p).c (by omega) (q p).f U (h3.later hU)
          have hfit2 := fun z U (hU : Below w.heap.size w U) => rFits_any (m z) (q p).A (q p).n (q p).c (by omega) (q p).f U (h3.later hU)
          have hat : ∀ U, Below w.heap.size w U → U.cell? (ad.add p) = some (.slice (q p).A (q p).n (q p).c) := fun U hU => by
            obtain ⟨ad2, e, c9, -⟩ := RC.out.at_ hU hlt
            cases e
            have := c9 (by omega); rw [Nat.mul_one] at this; exact this
          simp only [Mat.val] at hfit1 hfit2
          have HA1 := Lib.hid hall1; have HA2 := Lib.hid hall2; have HF1 := Lib.hid hfit1; have HF2 := Lib.hid hfit2; have HAT := Lib.hid hat
          clear hall1 hall2 hfit1 hfit2 hat hfw hfp c0 h1 h2 h3
          have HQN := Lib.hid (Eq.refl (q p).n)
          generalize hqf : (q p).f = qf at *
          generalize hqa : (q p).A = qa at *
          generalize hqn : (q p).n = qn at *
          generalize hqc : (q p).c = qc at *
          have HQF := Lib.hid (And.intro hqf hqn); clear hqf hqa hqn hqc HQN
          go_wp2_with fail
          refine HP.out.mono ?_; rintro e w4 ⟨rfl, hb4⟩
          have B4 := Lib.hid (below_step HB.out hb4); clear hb4 e0 HP
          go_upto_region 17 with fail
          have hS := B4.out.drew
          clear B4
          refine plain_held (fun U => Below w.heap.size w U) (by kernel_rfl) ?_
          generalize w4.drew = wd at *
          generalize Ma.all m k qf qn = x at *
          refine wpAnyH_pick (by kernel_rfl) Only.panic (w := wd) hS [0, 1, 2, 3, 4, 6, 7, 8, 9, 10] 3 _ _ (by kernel_rfl) ?_
          refine PickOk.value (d := some 42) (v := .slice B k cm) rfl rfl (by kernel_rfl) (fun U hU => (by go_simp)) ?_
          refine PickOk.value (d := some 43) (v := .slice (some ad) n c) rfl rfl (by kernel_rfl) (fun U hU => (by go_simp)) ?_
          refine PickOk.value (d := some 44) (v := .int .i64 p) rfl rfl (by kernel_rfl) (fun U hU => (by go_simp)) ?_
          refine PickOk.value (d := some 45) (v := .pointer (some (ad.add p))) rfl rfl (by kernel_rfl) (fun U hU => (by go_simp)) ?_
          refine PickOk.value (d := some 46) (v := .slice qa qn qc) rfl rfl (by kernel_rfl) (fun U hU => (by have e9 := HAT.out U hU; go_simp)) ?_
          refine PickOk.value (d := some 48) (v := .slice B k cm) rfl rfl (by kernel_rfl) (fun U hU => (by go_simp)) ?_
          refine PickOk.value (d := some 49) (v := .slice (some ad) n c) rfl rfl (by kernel_rfl) (fun U hU => (by go_simp)) ?_
          refine PickOk.value (d := some 50) (v := .int .i64 p) rfl rfl (by kernel_rfl) (fun U hU => (by go_simp)) ?_
          refine PickOk.value (d := some 51) (v := .pointer (some (ad.add p))) rfl rfl (by kernel_rfl) (fun U hU => (by go_simp)) ?_
          refine PickOk.value (d := some 52) (v := .slice qa qn qc) rfl rfl (by kernel_rfl) (fun U hU => (by have e9 := HAT.out U hU; go_simp)) ?_
          simp only [PickOk, Act.put, List.setIfInBounds_toArray, List.set_cons_zero, List.set_cons_succ]
          refine wpAnyH_one (i := 5) (by kernel_rfl) rfl (by kernel_rfl) ?_
          intro K hK
          unfold Oper.wp
          go_simp
          refine (HA1.out _ hS).mono ?_; rintro e w7 ⟨rfl, hb7⟩
          have hS7 := below_step hS hb7
          refine hK _ _ hS7 (fun _ => ?_)
          clear hK K hS hb7
          refine wpAnyH_one (i := 11) (by kernel_rfl) rfl (by kernel_rfl) ?_
          intro K hK
          unfold Oper.wp
          go_simp
          refine (HA2.out _ hS7).mono ?_; rintro e w8 ⟨rfl, hb8⟩
          have hS8 := below_step hS7 hb8
          refine hK _ _ hS8 (fun _ => ?_)
          clear hK K hS7 hb8
          refine wpAnyH_pick (by kernel_rfl) Only.panic (w := w8) hS8 [12] 0 _ _ (by kernel_rfl) ?_
          refine PickOk.value (d := some 54) (v := .bool false) rfl rfl (by kernel_rfl) (fun U hU => (by cases x <;> go_simp)) ?_
          simp only [PickOk, Act.put, List.setIfInBounds_toArray, List.set_cons_zero, List.set_cons_succ]
          refine wpAnyH_done (by kernel_rfl) ?_ _
          refine Only.next ?_
          have B8 := Lib.hid hS8
          clear hS8 HA1 HA2
          go_wp2_with fail
          go_loopw [11] (fun i wx => ∃ z : Nat, z ≤ k ∧ i = .int .i64 z ∧ Below w.heap.size w wx) (fun i _ => k - (intOf i).toNat)
          case atStart => exact ⟨0, Nat.zero_le _, rfl, B8.out⟩
          case round =>
            obtain ⟨z, hz, rfl, hbx⟩ := hrel
            have BX := Lib.hid hbx; clear hbx B8
            by_cases hzk : z < k
            · obtain ⟨bd, rfl, -, -⟩ := RB.out.at_ BX.out hzk
              have hmt : ∀ U, Below w.heap.size w U → U.cell? (bd.add (z * 3)) = some (.int .i64 (m z).k) ∧ U.cell? ⟨(bd.add (z * 3)).block, (bd.add (z * 3)).off + 1, none⟩ = some (.string (m z).n) ∧ U.cell? ⟨(bd.add (z * 3)).block, (bd.add (z * 3)).off + 2, none⟩ = some (.string (m z).v) := fun U hU => by
                obtain ⟨bd2, e, c8, c9⟩ := RB.out.at_ hU hzk
                cases e
                exact ⟨c8 (by omega), c9 1 (by omega) (by omega), c9 2 (by omega) (by omega)⟩
              have hf1 := fun U hU => HF1.out z U hU
              have hf2 := fun U hU => HF2.out z U hU
              have HMT := Lib.hid hmt; have G1 := Lib.hid hf1; have G2 := Lib.hid hf2
              clear hmt hf1 hf2
              have z1 : (z : Int) < (k : Int) := by omega
              have z0 : (0 : Int) ≤ (z : Int) := by omega
              generalize Ma.fits (m z) qf qn = x at *
              generalize (m z).k = xk at *
              generalize (m z).n = xn at *
              generalize (m z).v = xv at *
              go_upto_region 22 with fail
              have hS := BX.out.drew
              clear BX
              refine plain_held (fun U => Below w.heap.size w U) (by kernel_rfl) ?_
              generalize wr.drew = wd2 at *
              refine wpAnyH_pick (by kernel_rfl) Only.panic (w := wd2) hS [0, 1, 2, 3, 4, 5, 6, 7, 9, 10, 11, 12, 13, 14, 15, 16] 3 _ _ (by kernel_rfl) ?_
              refine PickOk.value (d := some 61) (v := .slice (some bd) k cm) rfl rfl (by kernel_rfl) (fun U hU => (by go_simp)) ?_
              refine PickOk.value (d := some 62) (v := .int .i64 z) rfl rfl (by kernel_rfl) (fun U hU => (by go_simp)) ?_
              refine PickOk.value (d := some 63) (v := .pointer (some (bd.add (z * 3)))) rfl rfl (by kernel_rfl) (fun U hU => (by go_simp)) ?_
              refine PickOk.value (d := some 64) (v := .agg #[.int .i64 xk, .string xn, .string xv]) rfl rfl (by kernel_rfl) (fun U hU => (by obtain ⟨m0, m1, m2⟩ := HMT.out U hU; go_simp)) ?_
              refine PickOk.value (d := some 65) (v := .slice (some ad) n c) rfl rfl (by kernel_rfl) (fun U hU => (by go_simp)) ?_
              refine PickOk.value (d := some 66) (v := .int .i64 p) rfl rfl (by kernel_rfl) (fun U hU => (by go_simp)) ?_
              refine PickOk.value (d := some 67) (v := .pointer (some (ad.add p))) rfl rfl (by kernel_rfl) (fun U hU => (by go_simp)) ?_
              refine PickOk.value (d := some 68) (v := .slice qa qn qc) rfl rfl (by kernel_rfl) (fun U hU => (by have e9 := HAT.out U hU; go_simp)) ?_
              refine PickOk.value (d := some 70) (v := .slice (some bd) k cm) rfl rfl (by kernel_rfl) (fun U hU => (by go_simp)) ?_
              refine PickOk.value (d := some 71) (v := .int .i64 z) rfl rfl (by kernel_rfl) (fun U hU => (by go_simp)) ?_
              refine PickOk.value (d := some 72) (v := .pointer (some (bd.add (z * 3)))) rfl rfl (by kernel_rfl) (fun U hU => (by go_simp)) ?_
              refine PickOk.value (d := some 73) (v := .agg #[.int .i64 xk, .string xn, .string xv]) rfl rfl (by kernel_rfl) (fun U hU => (by obtain ⟨m0, m1, m2⟩ := HMT.out U hU; go_simp)) ?_
              refine PickOk.value (d := some 74) (v := .slice (some ad) n c) rfl rfl (by kernel_rfl) (fun U hU => (by go_simp)) ?_
              refine PickOk.value (d := some 75) (v := .int .i64 p) rfl rfl (by kernel_rfl) (fun U hU => (by go_simp)) ?_
              refine PickOk.value (d := some 76) (v := .pointer (some (ad.add p))) rfl rfl (by kernel_rfl) (fun U hU => (by go_simp)) ?_
              refine PickOk.value (d := some 77) (v := .slice qa qn qc) rfl rfl (by kernel_rfl) (fun U hU => (by have e9 := HAT.out U hU; go_simp)) ?_
              simp only [PickOk, Act.put, List.setIfInBounds_toArray, List.set_cons_zero, List.set_cons_succ]
              refine wpAnyH_one (i := 8) (by kernel_rfl) rfl (by kernel_rfl) ?_
              intro K hK
              unfold Oper.wp
              go_simp
              refine (G1.out _ hS).mono ?_; rintro e w17 ⟨rfl, hb7⟩
              have hS7 := below_step hS hb7
              refine hK _ _ hS7 (fun _ => ?_)
              clear hK K hS hb7
              refine wpAnyH_one (i := 17) (by kernel_rfl) rfl (by kernel_rfl) ?_
              intro K hK
              unfold Oper.wp
              go_simp
              refine (G2.out _ hS7).mono ?_; rintro e w18 ⟨rfl, hb8⟩
              have hS8 := below_step hS7 hb8
              refine hK _ _ hS8 (fun _ => ?_)
              clear hK K hS7 hb8
              refine wpAnyH_pick (by kernel_rfl) Only.panic (w := w18) hS8 [18] 0 _ _ (by kernel_rfl) ?_
              refine PickOk.value (d := some 79) (v := .bool false) rfl rfl (by kernel_rfl) (fun U hU => (by cases x <;> go_simp)) ?_
              simp only [PickOk, Act.put, List.setIfInBounds_toArray, List.set_cons_zero, List.set_cons_succ]
              refine wpAnyH_done (by kernel_rfl) ?_ _
              refine Only.next ?_
              have B18 := Lib.hid hS8
              clear hS8
              go_wp2_with fail
              go_roundw
              case rel => exact ⟨z + 1, by omega, by go_num, B18.out⟩
              case measure => simp [intOf]; omega
            · obtain rfl : z = k := by omega
              have z1 : ¬ (z : Int) < (z : Int) := by omega
              go_wp2_with fail
              go_roundw
              case rel => exact ⟨p + 1, by omega, by go_num, fun j hj => (by
                rcases Nat.lt_or_ge j p with h1 | h1
                · exact HE.out j h1
                · obtain rfl : j = p := by omega
                  rw [HQF.out.1, HQF.out.2]; exact HW.out), BX.out⟩
              case measure => simp [intOf]; omega
      · obtain rfl : p = n := by omega
        have i1 : ¬ (p : Int) < (p : Int) := by omega
        have hq10 : ∀ i, i < p → (q i).n ≤ 1000000 := fun i hi => by have := (La.few_yes (HE.out i hi)).1; omega
        have hsel := fun W (hW : Below w.heap.size w W) => Select_any B k cm (by omega) m C p c (by omega) (fun i => (q i).A) (fun i => (q i).n) (fun i => (q i).c) (fun i => (q i).f) hq10 W (RB.out.later hW) (RC.out.later hW) (fun i hi => (RQ.out i hi).2.2.later hW)
        have hrsel := fun W (hW : Below w.heap.size w W) => rSelect_any B k cm (by omega) m C p c (by omega) (fun i => (q i).A) (fun i => (q i).n) (fun i => (q i).c) (fun i => (q i).f) hq10 W (RB.out.later hW) (RC.out.later hW) (fun i hi => (RQ.out i hi).2.2.later hW)
        have hln := Ma.sel_length (fun i => Ma.all m k (q i).f (q i).n) p
        generalize Ma.sel (fun i => Ma.all m k (q i).f (q i).n) p = L at *
        have hrow := fun W A1 A2 c1 c2 (h1 : Row 1 (fun j _ => .int .i64 ((L.getD j 0 : Nat) : Int)) W A1 L.length) (h2 : Row 1 (fun j _ => .int .i64 ((L.getD j 0 : Nat) : Int)) W A2 L.length) => rRow_any A1 A2 L.length c1 c2 (by omega) (fun j => ((L.getD j 0 : Nat) : Int)) W h1 h2
        have HS := Lib.hid hsel; have HRS := Lib.hid hrsel; have HROW := Lib.hid hrow
        clear hsel hrsel hrow hq10 hln
        go_wp2_with fail
        refine (CC.out _ HB.out).mono ?_; rintro e w4 ⟨rfl, hb4⟩
        have B4 := Lib.hid (below_step HB.out hb4); clear hb4 HB
        go_wp2_with fail
        refine (HS.out _ B4.out).mono ?_; rintro e w5 ⟨v5, rfl, ho5, hb5⟩
        obtain ⟨A5, c5, rfl, hr5⟩ := own_ints ho5
        have B5 := Lib.hid (below_step B4.out hb5); have R5 := Lib.hid hr5; clear hb5 ho5 hr5 B4
        go_wp2_with fail
        refine (HRS.out _ B5.out).mono ?_; rintro e w6 ⟨v6, rfl, ho6, hb6⟩
        obtain ⟨A6, c6, rfl, hr6⟩ := own_ints ho6
        have B6 := Lib.hid (below_step B5.out hb6); have R6 := Lib.hid (R5.out.later hb6); have S6 := Lib.hid hr6; clear hb6 ho6 hr6 B5 R5
        go_wp2_with fail
        refine (HROW.out _ _ _ _ _ R6.out S6.out).mono ?_; rintro e w7 ⟨rfl, hb7⟩
        have B7 := Lib.hid (below_step B6.out hb7); clear hb7
        go_wp2_with fail
        go_ret
        exact ⟨rfl, B7.out⟩
theorem matchFits_walk {H : Type} {enc : TypeId × Value → H} {r : Reach} {b0 : Nat} {v : Value} {d : DataW H} {p : List MemPlace} {r2 : Reach} {b2 : Nat} {v2 : Value} {d2 : DataW H} {p2 : List MemPlace} (w : World)
    (hv : Value.okWide Try.prog w r b0 22 v) (h : DataW.Trod enc Try.prog w 0 (fun _ => true) true 22 v d p) (hv2 : Value.okWide Try.prog w r2 b2 23 v2) (h2 : DataW.Trod enc Try.prog w 0 (fun _ => true) true 23 v2 d2 p2) :
    Calls Try.prog 3 #[v, v2] w fun e w' => e = .returned (.bool true) ∧ Below w.heap.size w w' := by
  obtain ⟨B, k, cm, m, rfl, h1, h3, _, hs, hB⟩ := open_mats hv h
  obtain ⟨C, n, c, q, rfl, hn, hC, hq⟩ := open_labss hv2 h2
  exact matchFits_walk0 w B k cm m (Nat.le_trans h1 h3) hs hB C n c q hn hC hq
end Go.Proofs.Ytcdlkiephdghlaa
