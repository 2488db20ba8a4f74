/-
  The walk of StampSteady.
-/
import Derived.Test.YtopdhcbhhkajpaaDoorStV
namespace Go.Proofs.YtopdhcbhhkajpaaDoor
open Go.RowKit
namespace St

/-- times that are as far from each other, each time -/
def steady (a b : Int) : Nat → Int
  | 0 => a
  | k + 1 => sw (steady a b k + b)
theorem steady_inR (a b : Int) (ha : inR a) : ∀ k, inR (steady a b k)
  | 0 => ha
  | _ + 1 => sw_range _
theorem step_back (x b : Int) : sw (sw (x + b) - x) = sw b := by
  obtain ⟨m, h⟩ := sw_val (x + b)
  have e : sw (x + b) - x = b + 18446744073709551616 * (- m) := by omega
  exact sw_same e
theorem steady_after (a b : Int) : ∀ k, k ≤ 1000 → after (steady a b) (k + 2) = ⟨(k : Int) + 2, steady a b (k + 1), sw b⟩
  | 0, _ => by
    show S.next (S.next ⟨0, 0, 0⟩ (steady a b 0)) (steady a b 1) = _
    simp only [S.next, if_true]
    rw [if_neg (by omega)]
    show (⟨sw (1 + 1), sw (a + b), sw (sw (a + b) - a)⟩ : S) = _
    rw [step_back, sw_in (by omega)]; rfl
  | k + 1, h => by
    show S.next (after (steady a b) (k + 2)) (steady a b (k + 2)) = _
    rw [steady_after a b k (by omega)]
    simp only [S.next]
    rw [if_neg (by omega)]
    show (⟨sw ((k : Int) + 2 + 1), steady a b (k + 2), sw (sw (steady a b (k + 1) + b) - steady a b (k + 1))⟩ : S) = _
    rw [step_back, sw_in (by omega)]
    congr 1
theorem steady_code (a b : Int) (k : Nat) (hk : k ≤ 1000) : ((after (steady a b) (k + 2)).code (steady a b (k + 2))).length = 1 := by
  rw [S.code_length, steady_after a b k hk]
  unfold S.cost S.change
  rw [if_neg (by show ¬ ((k : Int) + 2 = 0); omega)]
  have e : sw (sw (steady a b (k + 2) - steady a b (k + 1)) - sw b) = 0 := by
    show sw (sw (sw (steady a b (k + 1) + b) - steady a b (k + 1)) - sw b) = 0
    rw [step_back, Int.sub_self, sw_in (by omega)]
  show marks (cls (sw (sw (steady a b (k + 2) - steady a b (k + 1)) - sw b))) + size (cls (sw (sw (steady a b (k + 2) - steady a b (k + 1)) - sw b))) = 1
  rw [e]; rfl
theorem steady_bits (a b : Int) : ∀ k, k ≤ 1000 → (bits (steady a b) (k + 2)).length = 64 + (⟨1, a, 0⟩ : S).cost (sw (a + b)) + k
  | 0, _ => by
    simp only [bits, after, List.length_append, List.length_nil, S.code_length]
    show 0 + (⟨0, 0, 0⟩ : S).cost a + ((⟨0, 0, 0⟩ : S).next a).cost (sw (a + b)) = _
    have e1 : (⟨0, 0, 0⟩ : S).next a = ⟨1, a, 0⟩ := by simp [S.next]
    have e2 : (⟨0, 0, 0⟩ : S).cost a = 64 := by simp [S.cost]
    rw [e1, e2]; omega
  | k + 1, h => by
    show (bits (steady a b) (k + 2) ++ (after (steady a b) (k + 2)).code (steady a b (k + 2))).length = _
    rw [List.length_append, steady_code a b k (by omega), steady_bits a b k (by omega)]; omega
theorem bits_one (f : Nat → Int) : (bits f 1).length = 64 := by
  simp only [bits, after, List.nil_append, S.code_length]
  simp [S.cost]
end St
theorem Lit.wf_i64 {n : Int} (h : (Lit.int .i64 n).wf = true) : St.inR n := by
  unfold St.inR
  simp [Lit.wf, IntKind.min, IntKind.max, IntKind.signed, IntKind.bits] at h; omega
set_option maxRecDepth 100000 in
set_option maxHeartbeats 1000000 in
theorem stampSteady_walk (w : World) (hT : ClsOk w) (a : Int) (ha : (Lit.int .i64 a).wf = true) (b : Int) (_hb : (Lit.int .i64 b).wf = true) (n : Int) (hn : (Lit.int .u8 n).wf = true) :
    Calls Tryd.prog 7 #[.int .i64 a, .int .i64 b, .int .u8 n] w fun e w' => e = .returned (.bool true) ∧ Below w.heap.size w w' := by
  obtain ⟨nn, rfl, hnn⟩ := byte_nat n hn
  have HIN := Lib.hid (St.steady_inR a b (Lit.wf_i64 ha))
  have HT := Lib.hid hT; clear hT ha hn _hb
  obtain ⟨m, hm⟩ : ∃ m : Nat, nn % 60 = m := ⟨_, rfl⟩
  have hm60 : m < 60 := by omega
  have t1 : (nn : Int).tmod 60 = (m : Int) := by rw [Int.tmod_eq_emod_of_nonneg (by omega)]; omega
  have t2 : IntKind.i64.wrap (nn : Int) = (nn : Int) := IntWalk.i64_in _ (by omega)
  have t3 : (nn : Int) % 60 = (m : Int) := by omega
  have HM := Lib.hid hm; clear hm
  obtain ⟨i0, hi, hz0, hz1, hz2⟩ := info_parts Tryd.info_i64
  go_enter Tryd.func7, Tryd.ntmps7
  go_wp2_with fail
  refine (works_any _ HT.out).mono ?_; rintro e w1 ⟨rfl, hb1⟩
  have HB1 := Lib.hid hb1; clear hb1
  have hs1 := HB1.out.size
  go_wp2_with fail
  go_loopw [8, 9, 10] (fun lv t i wr => ∃ (k : Nat) (A : Option Addr) (cap : Nat), k ≤ m ∧ i = .int .i64 k ∧ t = .int .i64 (St.steady a b k) ∧ lv = .slice A k cap ∧ wr.ownsRow w1.heap.size 2 1 (.slice A k cap) k (intVals ((List.range k).map (St.steady a b))) ∧ Below w.heap.size w wr ∧ w1.heap.size ≤ wr.heap.size) (fun _ _ i _ => m - (intOf i).toNat)
  case atStart => exact ⟨0, none, 0, by omega, rfl, rfl, rfl, World.ownsRow_nil _ _ _ _, HB1.out, Nat.le_refl _⟩
  case round =>
    obtain ⟨k, A, cap, hk, rfl, rfl, rfl, hown, hb, hsz⟩ := hrel
    have hbs := hb.size
    by_cases hlt : k < m
    · have hst : wrap64 (St.steady a b k + b) = St.steady a b (k + 1) := rfl
      have HL : Hid (intVals ((List.range (k + 1)).map (St.steady a b)) = intVals ((List.range k).map (St.steady a b)) ++ [.int .i64 (St.steady a b k)]) := Lib.hid (by simp [intVals, List.range_succ])
      generalize St.steady a b k = t at *
      generalize hst2 : St.steady a b (k + 1) = t2 at *
      have HS2 := Lib.hid hst2; have HST := Lib.hid hst; clear hst2 hst
      have hlow := fun r hr => ((hown.alloc (.cells #[.int .i64 t] 2)).lt r hr).1
      have HLow := Lib.hid hlow; clear hlow
      go_wp2_with (at_builtin; go_must (refine wpList_append_own _ rfl _ _ 47 rfl w1.heap.size 2 i0 (.int .i64 0) 1 8 Tryd.underlying47 hi hz0 hz1 hz2 rfl (by decide) _ _ _ rfl (hown.alloc _) ⟨wr.heap.size, 0, none⟩ 1 1 [.int .i64 t] rfl rfl (cell_one_new _ _ _) (by simp [Value.oneCell']) (by unfold maxLen; omega) (by omega) (by simp; omega) ?_); intro v' w6 hown' hgrow _)
      obtain ⟨A6, c6, rfl⟩ := own_form hown'
      go_roundw
      case rel =>
        refine ⟨k + 1, A6, c6, by omega, by go_num, by rw [HST.out, HS2.out], rfl, ?_, (hb.alloc hbs _).grown hgrow (by simp; omega) (fun r hr => Nat.le_trans hs1 (HLow.out r hr)), ?_⟩
        · rw [HL.out]; exact hown'
        · have := hgrow.size; simp at this; omega
      case measure => simp [intOf]; omega
    · obtain rfl : k = m := by omega
      have hrow := own_intRow hown (by simp) (fun t ht => by
        obtain ⟨j, _, rfl⟩ := List.mem_map.1 ht
        exact HIN.out j)
      have hcong := (St.after_congr (f := fun i => ((List.range k).map (St.steady a b)).getD i 0) (g := St.steady a b) k (fun i hi => by simp [List.getD, hi])).2
      have HCG := Lib.hid hcong
      have HTk : Hid (ClsOk wr) := Lib.hid (HT.out.later hb)
      have HR := Lib.hid hrow; have HB := Lib.hid hb
      clear hrow hcong hb hown
      go_wp2_with fail
      refine (stAll_any _ HTk.out A k cap _ (by omega) HR.out).mono ?_; rintro e w5 ⟨rfl, hb5⟩
      rw [HCG.out]
      have HB5 := Lib.hid (HB.out.trans (hb5.mono HB.out.size)); clear hb5
      have hts := Bit.text_size (St.bits (St.steady a b) k)
      have HT5 : Hid (ClsOk w5) := Lib.hid (HT.out.later HB5.out)
      by_cases h2 : k < 2
      · have hlen : (Bit.text (St.bits (St.steady a b) k)).size = 8 * k := by
          obtain rfl | rfl : k = 0 ∨ k = 1 := by omega
          · rw [hts]; simp [St.bits]
          · rw [hts, St.bits_one]
        clear hts
        generalize (Bit.text (St.bits (St.steady a b) k)) = tx at *
        go_wp2_with fail
        go_ret
        refine ⟨?_, HB5.out⟩
        congr 2
      · obtain ⟨q, rfl⟩ : ∃ q, k = q + 2 := ⟨k - 2, by omega⟩
        rw [St.steady_bits a b q (by omega)] at hts
        have hcl := (⟨1, a, 0⟩ : St.S).cost_le (St.sw (a + b))
        have hcost := fun W (h : ClsOk W) => cost_any ⟨1, a, 0⟩ (St.sw (a + b)) W h
        have hab : wrap64 (a + b) = St.sw (a + b) := rfl
        rw [show (⟨1, a, 0⟩ : St.S).val = .agg #[.int .i64 1, .int .i64 a, .int .i64 0] from rfl] at hcost
        generalize (⟨1, a, 0⟩ : St.S).cost (St.sw (a + b)) = co at *
        generalize (Bit.text (St.bits (St.steady a b) (q + 2))) = tx at *
        generalize St.sw (a + b) = ab at *
        have HCO := Lib.hid hcost; have HTS := Lib.hid hts
        clear hcost hts
        go_wp2_with fail
        refine (HCO.out _ HT5.out).mono ?_; rintro e w7 ⟨rfl, hb7⟩
        have HB7 := Lib.hid (HB5.out.trans (hb7.mono HB5.out.size)); clear hb7
        go_wp2_with fail
        go_ret
        refine ⟨?_, HB7.out⟩
        have := HTS.out
        congr 2
        simp
        omega
end Go.Proofs.YtopdhcbhhkajpaaDoor
