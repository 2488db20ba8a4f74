/-
  The walk of StampMoves.
-/
import Derived.Test.YtopdhcbhhkajpaaDoorStW
namespace Go.Proofs.YtopdhcbhhkajpaaDoor
open Go.RowKit
namespace St

theorem move_back (x y b : Int) : sw (sw (x + b) - sw (y + b)) = sw (x - y) := by
  obtain ⟨m1, h1⟩ := sw_val (x + b)
  obtain ⟨m2, h2⟩ := sw_val (y + b)
  have e : sw (x + b) - sw (y + b) = (x - y) + 18446744073709551616 * (m2 - m1) := by omega
  exact sw_same e
def moved (f : Nat → Int) (b : Int) : Nat → Int := fun i => sw (f i + b)
theorem moved_after (f : Nat → Int) (b : Int) : ∀ k, k ≤ 900 → after (moved f b) (k + 1) = ⟨(after f (k + 1)).n, sw ((after f (k + 1)).t + b), (after f (k + 1)).d⟩ ∧ (after f (k + 1)).n ≠ 0 ∧ (after f (k + 1)).t = f k
  | 0, _ => by
    simp only [after, S.next, if_true, moved]
    exact ⟨trivial, by omega, trivial⟩
  | k + 1, h => by
    obtain ⟨h1, h2, h3⟩ := moved_after f b k (by omega)
    have hn := after_n f (k + 1 + 1) (by omega)
    have e1 : after f (k + 1 + 1) = ⟨sw ((after f (k + 1)).n + 1), f (k + 1), sw (f (k + 1) - (after f (k + 1)).t)⟩ := by
      show S.next (after f (k + 1)) (f (k + 1)) = _
      unfold S.next; rw [if_neg h2]
    have e2 : after (moved f b) (k + 1 + 1) = ⟨sw ((after f (k + 1)).n + 1), sw (f (k + 1) + b), sw (sw (f (k + 1) + b) - sw ((after f (k + 1)).t + b))⟩ := by
      show S.next (after (moved f b) (k + 1)) (moved f b (k + 1)) = _
      rw [h1]
      unfold S.next; rw [if_neg h2]; rfl
    rw [move_back] at e2
    refine ⟨by rw [e2, e1], fun h0 => ?_, by rw [e1]⟩
    rw [h0] at hn; omega
theorem moved_code (f : Nat → Int) (b : Int) (k : Nat) (hk : k ≤ 900) : (after (moved f b) (k + 1)).code (moved f b (k + 1)) = (after f (k + 1)).code (f (k + 1)) := by
  obtain ⟨h1, h2, h3⟩ := moved_after f b k hk
  have e : (after (moved f b) (k + 1)).change (moved f b (k + 1)) = (after f (k + 1)).change (f (k + 1)) := by
    rw [h1]
    show sw (sw (sw (f (k + 1) + b) - sw ((after f (k + 1)).t + b)) - (after f (k + 1)).d) = sw (sw (f (k + 1) - (after f (k + 1)).t) - (after f (k + 1)).d)
    rw [move_back]
  unfold S.code
  rw [if_neg h2, e]
  rw [h1, if_neg h2]
theorem moved_bits (f : Nat → Int) (b : Int) : ∀ k, k ≤ 900 → ∃ R, bits f (k + 1) = Bit.of (uw (f 0)).toNat 64 ++ R ∧ bits (moved f b) (k + 1) = Bit.of (uw (moved f b 0)).toNat 64 ++ R
  | 0, _ => ⟨[], by simp [bits, after, S.code], by simp [bits, after, S.code]⟩
  | k + 1, h => by
    obtain ⟨R, h1, h2⟩ := moved_bits f b k (by omega)
    refine ⟨R ++ (after f (k + 1)).code (f (k + 1)), ?_, ?_⟩
    · show bits f (k + 1) ++ _ = _
      rw [h1, List.append_assoc]
    · show bits (moved f b) (k + 1) ++ _ = _
      rw [h2, moved_code f b k (by omega), List.append_assoc]
end St
theorem Bit.at_skip (X R : List Bool) (hX : X.length = 64) (j : Nat) (hj : 8 ≤ j) : Bit.at_ (X ++ R) j = Bit.at_ R (j - 8) := by
  unfold Bit.at_
  have e : (X ++ R).drop (8 * j) = R.drop (8 * (j - 8)) := by
    rw [List.drop_append, List.drop_of_length_le (by omega), List.nil_append]
    congr 1; omega
  rw [e]
theorem Bit.text_get (B : List Bool) (j : Nat) (h : j < (Bit.text B).size) : (Bit.text B)[j] = UInt8.ofNat (Bit.at_ B j) := by
  have hs := Bit.text_size B
  have hp := Bit.pack_get B j (by unfold Bit.size; omega)
  have e : (Bit.text B)[j] = (Bit.pack B)[j]'(by rw [Bit.pack_length]; unfold Bit.size; omega) := by
    show (Bit.text B).data[j]'h = _
    simp [Bit.text]
  rw [e]
  rw [List.getElem?_eq_getElem (by rw [Bit.pack_length]; unfold Bit.size; omega)] at hp
  exact Option.some.inj hp
/-- moved times: as many bytes, and behind the first eight the same ones -/
theorem St.moved_text (f : Nat → Int) (b : Int) (n : Nat) (hn : n ≤ 900) : (Bit.text (St.bits (St.moved f b) n)).size = (Bit.text (St.bits f n)).size ∧
    ∀ j, 8 ≤ j → ∀ (h1 : j < (Bit.text (St.bits f n)).size) (h2 : j < (Bit.text (St.bits (St.moved f b) n)).size), (Bit.text (St.bits (St.moved f b) n))[j] = (Bit.text (St.bits f n))[j] := by
  cases n with
  | zero => exact ⟨rfl, fun j _ h1 h2 => rfl⟩
  | succ n =>
    obtain ⟨R, h1, h2⟩ := St.moved_bits f b n (by omega)
    constructor
    · rw [Bit.text_size, Bit.text_size, h1, h2]; simp [Bit.of_length]
    · intro j hj g1 g2
      rw [Bit.text_get _ _ g1, Bit.text_get _ _ g2, h1, h2, Bit.at_skip _ _ (Bit.of_length _ _) j hj, Bit.at_skip _ _ (Bit.of_length _ _) j hj]
set_option maxRecDepth 100000 in
set_option maxHeartbeats 1000000 in
theorem stampMoves_walk0 (w : World) (hT : ClsOk w) (A : Option Addr) (len cap : Nat) (f : Nat → Int) (_hlen : len ≤ maxLen) (hA : IntRow w A len .i64 f) (b : Int) :
    Calls Tryd.prog 9 #[.slice A len cap, .int .i64 b] w fun e w' => e = .returned (.bool true) ∧ Below w.heap.size w w' := by
  have HT := Lib.hid hT; have HA := Lib.hid hA; clear hT hA
  by_cases hl : len ≤ 60
  · have d0 : decide ((60 : Int) < (len : Int)) = false := by simp; omega
    obtain ⟨i0, hi, hz0, hz1, hz2⟩ := info_parts Tryd.info_i64
    go_enter Tryd.func9, Tryd.ntmps9
    go_wp2_with fail
    refine (works_any _ HT.out).mono ?_; rintro e w1 ⟨rfl, hb1⟩
    have HB1 := Lib.hid hb1; clear hb1
    have hs1 := HB1.out.size
    go_wp2_with fail
    go_loopw [6, 7] (fun lv i wr => ∃ (k : Nat) (A2 : Option Addr) (cap2 : Nat), k ≤ len ∧ i = .int .i64 k ∧ lv = .slice A2 k cap2 ∧ wr.ownsRow w1.heap.size 2 1 (.slice A2 k cap2) k (intVals ((List.range k).map (St.moved f b))) ∧ Below w.heap.size w wr ∧ w1.heap.size ≤ wr.heap.size) (fun _ i _ => len - (intOf i).toNat)
    case atStart => exact ⟨0, none, 0, by omega, rfl, rfl, World.ownsRow_nil _ _ _ _, HB1.out, Nat.le_refl _⟩
    case round =>
      obtain ⟨k, A2, cap2, hk, rfl, rfl, hown, hb, hsz⟩ := hrel
      have hbs := hb.size
      by_cases hlt : k < len
      · obtain ⟨ad, rfl, c0, wf0⟩ := HA.out.at_ hb hlt
        have hst : wrap64 (f k + b) = St.moved f b k := rfl
        have HL : Hid (intVals ((List.range (k + 1)).map (St.moved f b)) = intVals ((List.range k).map (St.moved f b)) ++ [.int .i64 (St.moved f b k)]) := Lib.hid (by simp [intVals, List.range_succ])
        generalize St.moved f b k = t at *
        generalize f k = fk at *
        have hlow := fun r hr => ((hown.alloc (.cells #[.int .i64 t] 2)).lt r hr).1
        have HLow := Lib.hid hlow; clear hlow
        go_wp2_with (at_builtin; go_must (refine wpList_append_own _ rfl _ _ 47 rfl w1.heap.size 2 i0 (.int .i64 0) 1 8 Tryd.underlying47 hi hz0 hz1 hz2 rfl (by decide) _ _ _ rfl (hown.alloc _) ⟨wr.heap.size, 0, none⟩ 1 1 [.int .i64 t] rfl rfl (cell_one_new _ _ _) (by simp [Value.oneCell']) (by unfold maxLen; omega) (by omega) (by simp; omega) ?_); intro v' w6 hown' hgrow _)
        obtain ⟨A6, c6, rfl⟩ := own_form hown'
        go_roundw
        case rel =>
          refine ⟨k + 1, A6, c6, by omega, by go_num, rfl, ?_, (hb.alloc hbs _).grown hgrow (by simp; omega) (fun r hr => Nat.le_trans hs1 (HLow.out r hr)), ?_⟩
          · rw [HL.out]; exact hown'
          · have := hgrow.size; simp at this; omega
        case measure => simp [intOf]; omega
      · obtain rfl : k = len := by omega
        have hrow := own_intRow hown (by simp) (fun t ht => by
          obtain ⟨j, _, rfl⟩ := List.mem_map.1 ht
          exact St.sw_range _)
        have hcong := (St.after_congr (f := fun i => ((List.range k).map (St.moved f b)).getD i 0) (g := St.moved f b) k (fun i hi => by simp [List.getD, hi])).2
        have HCG := Lib.hid hcong
        have HTk : Hid (ClsOk wr) := Lib.hid (HT.out.later hb)
        have HAk := Lib.hid (HA.out.later hb)
        have HR := Lib.hid hrow; have HB := Lib.hid hb
        clear hrow hcong hb hown
        go_wp2_with fail
        refine (stAll_any _ HTk.out A k cap f (by omega) HAk.out).mono ?_; rintro e w5 ⟨rfl, hb5⟩
        have HB5 := Lib.hid (HB.out.trans (hb5.mono HB.out.size)); have HR5 := Lib.hid (HR.out.later hb5); clear hb5
        have HT5 : Hid (ClsOk w5) := Lib.hid (HT.out.later HB5.out)
        go_wp2_with fail
        refine (stAll_any _ HT5.out A2 k cap2 _ (by omega) HR5.out).mono ?_; rintro e w6 ⟨rfl, hb6⟩
        rw [HCG.out]
        have HB6 := Lib.hid (HB5.out.trans (hb6.mono HB5.out.size)); clear hb6
        obtain ⟨hmt1, hmt2⟩ := St.moved_text f b k (by omega)
        have hts := Bit.text_size (St.bits f k)
        have hbl := St.bits_length f k
        generalize Bit.text (St.bits (St.moved f b) k) = tb at *
        generalize Bit.text (St.bits f k) = ta at *
        have hta : ta.size ≤ 1000 := by omega
        have HM2 := Lib.hid hmt2
        clear hts hbl hmt2
        have e1 : ((ta.size : Int) != (tb.size : Int)) = false := by simp [hmt1]
        have HM1 := Lib.hid hmt1; clear hmt1
        go_wp2_with fail
        go_loopw [10] (fun i wr => ∃ (j : Nat), 8 ≤ j ∧ (j ≤ ta.size ∨ j = 8) ∧ i = .int .i64 j ∧ Below w.heap.size w wr) (fun i _ => ta.size - (intOf i).toNat)
        case atStart => exact ⟨8, by omega, .inr rfl, rfl, HB6.out⟩
        case round =>
          obtain ⟨j, hj8, hj, rfl, hb⟩ := hrel
          have HBj := Lib.hid hb; clear hb
          by_cases hjl : j < ta.size
          · have hjb : j < tb.size := by rw [HM1.out]; exact hjl
            have hget := HM2.out j hj8 hjl hjb
            go_wp2_with fail
            go_quiet (fail)
            go_wp2_with fail
            go_roundw
            case rel => exact ⟨j + 1, by omega, by omega, by go_num, HBj.out.grown (DrewOf.grown ⟨_, rfl⟩ none) HBj.out.size (fun r e => by cases e)⟩
            case measure => simp [intOf]; omega
          · go_wp2_with fail
            go_ret
            exact ⟨rfl, HBj.out⟩
  · have d0 : decide ((60 : Int) < (len : Int)) = true := by simp; omega
    go_enter Tryd.func9, Tryd.ntmps9
    go_wp2_with fail
    refine (works_any _ HT.out).mono ?_; rintro e w1 ⟨rfl, hb1⟩
    have HB1 := Lib.hid hb1; clear hb1
    go_wp2_with fail
    go_ret
    exact ⟨rfl, HB1.out⟩
theorem stampMoves_walk {H : Type} {enc : TypeId × Value → H} {r : Reach} {b0 : Nat} {v : Value} {d : DataW H} {p : List MemPlace} (w : World) (hT : ClsOk w)
    (hv : Value.okWide Tryd.prog w r b0 47 v) (h : DataW.Trod enc Tryd.prog w 0 (fun _ => true) true 47 v d p) (b : Int) (_hb : (Lit.int .i64 b).wf = true) :
    Calls Tryd.prog 9 #[v, .int .i64 b] w fun e w' => e = .returned (.bool true) ∧ Below w.heap.size w w' := by
  obtain ⟨A, m, c, f, rfl, hm, hA⟩ := open_ints_row (k := .i64) Tryd.underlying47 Tryd.underlying2 (by kernel_rfl) hv h
  exact stampMoves_walk0 w hT A m c f hm hA b
end Go.Proofs.YtopdhcbhhkajpaaDoor
