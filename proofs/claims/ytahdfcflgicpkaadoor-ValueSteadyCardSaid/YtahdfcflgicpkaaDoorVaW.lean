/-
  The walk of ValueSteady.
-/
import Derived.Test.YtahdfcflgicpkaaDoorVaU
namespace Go.Proofs.YtahdfcflgicpkaaDoor
open Go.RowKit
namespace Va
theorem same_after (v : Nat) : ∀ k, after (fun _ => v) (k + 1) = ⟨k + 1, v, 64, 0⟩
  | 0 => by
    show S.next ⟨0, 0, 64, 0⟩ v = _
    unfold S.next
    have h : way ⟨0, 0, 64, 0⟩ (v ^^^ 0) = 0 := way_zero.2 rfl
    rw [h, if_neg (by decide)]
  | k + 1 => by
    show S.next (after (fun _ => v) (k + 1)) v = _
    rw [same_after v k]
    unfold S.next
    have h : way ⟨k + 1, v, 64, 0⟩ (v ^^^ v) = 1 := way_one.2 ⟨by show k + 1 ≠ 0; omega, Nat.xor_self v⟩
    rw [h, if_neg (by decide)]
theorem same_bits (v : Nat) : ∀ k, (bits (fun _ => v) (k + 1)).length = 64 + k
  | 0 => by
    show ([] ++ (⟨0, 0, 64, 0⟩ : S).code v).length = 64
    rw [List.nil_append, S.code_length]
    unfold S.cost
    have h : way ⟨0, 0, 64, 0⟩ (v ^^^ 0) = 0 := way_zero.2 rfl
    rw [h, if_pos rfl]
  | k + 1 => by
    show (bits (fun _ => v) (k + 1) ++ (after (fun _ => v) (k + 1)).code v).length = _
    rw [List.length_append, same_bits v k, same_after v k, S.code_length]
    unfold S.cost
    have h : way ⟨k + 1, v, 64, 0⟩ (v ^^^ v) = 1 := way_one.2 ⟨by show k + 1 ≠ 0; omega, Nat.xor_self v⟩
    rw [h, if_neg (by decide), if_pos rfl]; omega
end Va
set_option maxRecDepth 100000 in
set_option maxHeartbeats 1000000 in
theorem valueSteady_walk (w : World) (hT : TabOk w) (x : Int) (hx : (Lit.int .u64 x).wf = true) (n : Int) (hn : (Lit.int .u8 n).wf = true) :
    Calls Tryd.prog 7 #[.int .u64 x, .int .u8 n] w fun e w' => e = .returned (.bool true) ∧ Below w.heap.size w w' := by
  obtain ⟨nn, rfl, hnn⟩ := byte_nat n hn
  obtain ⟨v, rfl, hvv⟩ := u64_nat x hx
  have HVV := hvv
  clear hx hvv hn
  have HT := Lib.hid hT; clear hT
  obtain ⟨m, hm⟩ : ∃ m : Nat, nn % 60 = m := ⟨_, rfl⟩
  have hm60 : m < 60 := by omega
  have t1 : (nn : Int).tmod 60 = (m : Int) := by rw [Int.tmod_eq_emod_of_nonneg (by omega)]; omega
  have t2 : IntKind.i64.wrap (nn : Int) = (nn : Int) := IntWalk.i64_in _ (by omega)
  have t3 : (nn : Int) % 60 = (m : Int) := by omega
  have HM := Lib.hid hm; clear hm
  obtain ⟨i0, hi, hz0, hz1, hz2⟩ := info_parts Tryd.info_u64
  go_enter Tryd.func7, Tryd.ntmps7
  go_wp2_with fail
  refine (works_any _ HT.out).mono ?_; rintro e w1 ⟨rfl, hb1⟩
  have HB1 := Lib.hid hb1; clear hb1
  have hs1 := HB1.out.size
  go_wp2_with fail
  go_loopw [6, 7] (fun lv i wr => ∃ (k : Nat) (A : Option Addr) (cap : Nat), k ≤ m ∧ i = .int .i64 k ∧ lv = .slice A k cap ∧ wr.ownsRow w1.heap.size 29 1 (.slice A k cap) k (natVals (List.replicate k v)) ∧ Below w.heap.size w wr ∧ w1.heap.size ≤ wr.heap.size) (fun _ i _ => m - (intOf i).toNat)
  case atStart => exact ⟨0, none, 0, by omega, rfl, rfl, World.ownsRow_nil _ _ _ _, HB1.out, Nat.le_refl _⟩
  case round =>
    obtain ⟨k, A, cap, hk, rfl, rfl, hown, hb, hsz⟩ := hrel
    have hbs := hb.size
    by_cases hlt : k < m
    · have HL : Hid (natVals (List.replicate (k + 1) v) = natVals (List.replicate k v) ++ [.int .u64 v]) := Lib.hid (by simp [natVals, List.replicate_succ'])
      have hlow := fun r hr => ((hown.alloc (.cells #[.int .u64 v] 29)).lt r hr).1
      have HLow := Lib.hid hlow; clear hlow
      go_wp2_with (at_builtin; go_must (refine wpList_append_own _ rfl _ _ 22 rfl w1.heap.size 29 i0 (.int .u64 0) 1 8 Tryd.underlying22 hi hz0 hz1 hz2 rfl (by decide) _ _ _ rfl (hown.alloc _) ⟨wr.heap.size, 0, none⟩ 1 1 [.int .u64 v] rfl rfl (cell_one_new _ _ _) (by simp [Value.oneCell']) (by unfold maxLen; omega) (by omega) (by simp; omega) ?_); intro v' w6 hown' hgrow _)
      obtain ⟨A6, c6, rfl⟩ := own_form hown'
      go_roundw
      case rel =>
        refine ⟨k + 1, A6, c6, by omega, by go_num, rfl, ?_, (hb.alloc hbs _).grown hgrow (by simp; omega) (fun r hr => Nat.le_trans hs1 (HLow.out r hr)), ?_⟩
        · rw [HL.out]; exact hown'
        · have := hgrow.size; simp at this; omega
      case measure => simp [intOf]; omega
    · obtain rfl : k = m := by omega
      have hrow := own_natRow hown (by simp) (fun t ht => by
        obtain ⟨_, rfl⟩ := List.mem_replicate.1 ht
        exact HVV.out)
      have hcong := (Va.after_congr (f := fun i => (List.replicate k v).getD i 0) (g := fun _ => v) k (fun i hi => by simp [List.getD, hi])).2
      have HCG := Lib.hid hcong
      have HTk : Hid (TabOk wr) := Lib.hid (HT.out.later hb)
      have HR := Lib.hid hrow; have HB := Lib.hid hb
      have hall := vAll_any _ HTk.out A k cap (fun i => (List.replicate k v).getD i 0) (by omega) hrow
      rw [hcong] at hall
      have hts := Bit.text_size (Va.bits (fun _ => v) k)
      have hsb : 0 < k → (Va.bits (fun _ => v) k).length = 64 + (k - 1) := fun h => by
        have := Va.same_bits v (k - 1)
        rw [show k - 1 + 1 = k from by omega] at this; exact this
      have hs0 : k = 0 → Bit.text (Va.bits (fun _ => v) k) = ByteArray.empty := fun h => by
        subst h
        show (⟨(Bit.pack []).toArray⟩ : ByteArray) = ByteArray.empty
        rw [Bit.pack_nil]; rfl
      generalize Bit.text (Va.bits (fun _ => v) k) = tx at *
      have HALL := Lib.hid hall; have HTS := Lib.hid hts; have HSB := Lib.hid hsb; have HS0 := Lib.hid hs0
      clear hrow hcong hb hown hall hts hsb hs0
      by_cases h0 : k = 0
      · have e0 : ((k : Int) == 0) = true := by simp [h0]
        have hE := HS0.out h0
        have HE := Lib.hid hE
        have HK0 := Lib.hid h0
        clear h0 hE
        go_wp2_with fail
        refine HALL.out.mono ?_; rintro e w5 ⟨rfl, hb5⟩
        have HB5 := Lib.hid (HB.out.trans (hb5.mono HB.out.size)); clear hb5
        rw [HE.out]
        go_wp2_with fail
        go_ret
        exact ⟨by first | rfl | simp, HB5.out⟩
      · have e0 : ((k : Int) == 0) = false := by simp [h0]
        go_wp2_with fail
        refine HALL.out.mono ?_; rintro e w5 ⟨rfl, hb5⟩
        have HB5 := Lib.hid (HB.out.trans (hb5.mono HB.out.size)); clear hb5
        go_wp2_with fail
        go_ret
        refine ⟨?_, HB5.out⟩
        have h1 := HTS.out
        rw [HSB.out (by omega)] at h1
        congr 2
        simp
        omega
end Go.Proofs.YtahdfcflgicpkaaDoor
