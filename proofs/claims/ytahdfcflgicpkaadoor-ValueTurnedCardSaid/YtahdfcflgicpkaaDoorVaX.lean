/-
  The walk of ValueTurned.
-/
import Derived.Test.YtahdfcflgicpkaaDoorVaU
namespace Go.Proofs.YtahdfcflgicpkaaDoor
open Go.RowKit

namespace Va
def turned (f : Nat → Nat) (b : Nat) : Nat → Nat := fun i => f i ^^^ b
theorem turn_back (x y b : Nat) : (x ^^^ b) ^^^ (y ^^^ b) = x ^^^ y := by
  rw [Nat.xor_assoc, Nat.xor_comm b, Nat.xor_assoc, Nat.xor_self, Nat.xor_zero]
theorem way_same {s s2 : S} (hn : s.n = s2.n) (hl : s.l = s2.l) (ht : s.t = s2.t) (x : Nat) : way s x = way s2 x := by unfold way; rw [hn, hl, ht]
theorem turned_after (f : Nat → Nat) (b : Nat) (n : Nat) : ∀ k, after (turned f b) (k + 1) = ⟨(after f (k + 1)).n, (after f (k + 1)).v ^^^ b, (after f (k + 1)).l, (after f (k + 1)).t⟩ ∧ (after f (k + 1)).n ≠ 0
  | 0 => by
    have h1 : after f 1 = ⟨1, f 0, 64, 0⟩ := by
      show S.next ⟨0, 0, 64, 0⟩ (f 0) = _
      unfold S.next
      have h : way ⟨0, 0, 64, 0⟩ (f 0 ^^^ 0) = 0 := way_zero.2 rfl
      rw [h, if_neg (by decide)]
    have h2 : after (turned f b) 1 = ⟨1, turned f b 0, 64, 0⟩ := by
      show S.next ⟨0, 0, 64, 0⟩ (turned f b 0) = _
      unfold S.next
      have h : way ⟨0, 0, 64, 0⟩ (turned f b 0 ^^^ 0) = 0 := way_zero.2 rfl
      rw [h, if_neg (by decide)]
    rw [h1, h2]
    exact ⟨rfl, by show 1 ≠ 0; omega⟩
  | k + 1 => by
    obtain ⟨h1, h2⟩ := turned_after f b n k
    generalize hs : after f (k + 1) = s at *
    have e1 : after f (k + 1 + 1) = s.next (f (k + 1)) := by show (after f (k + 1)).next _ = _; rw [hs]
    have e2 : after (turned f b) (k + 1 + 1) = (⟨s.n, s.v ^^^ b, s.l, s.t⟩ : S).next (turned f b (k + 1)) := by show (after (turned f b) (k + 1)).next _ = _; rw [h1]
    rw [e1, e2]
    unfold S.next
    have hx : turned f b (k + 1) ^^^ (s.v ^^^ b) = f (k + 1) ^^^ s.v := turn_back _ _ _
    have hw : way ⟨s.n, s.v ^^^ b, s.l, s.t⟩ (f (k + 1) ^^^ s.v) = way s (f (k + 1) ^^^ s.v) := way_same rfl rfl rfl _
    show (if way ⟨s.n, s.v ^^^ b, s.l, s.t⟩ (turned f b (k + 1) ^^^ (s.v ^^^ b)) = 3 then (⟨s.n + 1, turned f b (k + 1), lead (turned f b (k + 1) ^^^ (s.v ^^^ b)), trail (turned f b (k + 1) ^^^ (s.v ^^^ b))⟩ : S) else ⟨s.n + 1, turned f b (k + 1), s.l, s.t⟩) = _ ∧ _
    rw [hx, hw]
    by_cases h3 : way s (f (k + 1) ^^^ s.v) = 3
    · rw [if_pos h3, if_pos h3]; exact ⟨rfl, by show s.n + 1 ≠ 0; omega⟩
    · rw [if_neg h3, if_neg h3]; exact ⟨rfl, by show s.n + 1 ≠ 0; omega⟩
theorem turned_code (f : Nat → Nat) (b : Nat) (k : Nat) : (after (turned f b) (k + 1)).code (turned f b (k + 1)) = (after f (k + 1)).code (f (k + 1)) := by
  obtain ⟨h1, h2⟩ := turned_after f b 0 k
  rw [h1]
  generalize after f (k + 1) = s at *
  have hx : turned f b (k + 1) ^^^ (s.v ^^^ b) = f (k + 1) ^^^ s.v := turn_back _ _ _
  have hw : way ⟨s.n, s.v ^^^ b, s.l, s.t⟩ (f (k + 1) ^^^ s.v) = way s (f (k + 1) ^^^ s.v) := way_same rfl rfl rfl _
  have h0 : way s (f (k + 1) ^^^ s.v) ≠ 0 := fun h => h2 (way_zero.1 h)
  have hn : ∀ h3 : way s (f (k + 1) ^^^ s.v) = 3, (⟨s.n, s.v ^^^ b, s.l, s.t⟩ : S).next (turned f b (k + 1)) = ⟨s.n + 1, turned f b (k + 1), lead (f (k + 1) ^^^ s.v), trail (f (k + 1) ^^^ s.v)⟩ ∧ s.next (f (k + 1)) = ⟨s.n + 1, f (k + 1), lead (f (k + 1) ^^^ s.v), trail (f (k + 1) ^^^ s.v)⟩ := fun h3 => by
    constructor
    · show (if way ⟨s.n, s.v ^^^ b, s.l, s.t⟩ (turned f b (k + 1) ^^^ (s.v ^^^ b)) = 3 then (⟨s.n + 1, turned f b (k + 1), lead (turned f b (k + 1) ^^^ (s.v ^^^ b)), trail (turned f b (k + 1) ^^^ (s.v ^^^ b))⟩ : S) else ⟨s.n + 1, turned f b (k + 1), s.l, s.t⟩) = _
      rw [hx, hw, if_pos h3]
    · unfold S.next; rw [if_pos h3]
  unfold S.code
  show (if way ⟨s.n, s.v ^^^ b, s.l, s.t⟩ (turned f b (k + 1) ^^^ (s.v ^^^ b)) = 0 then _ else if way ⟨s.n, s.v ^^^ b, s.l, s.t⟩ (turned f b (k + 1) ^^^ (s.v ^^^ b)) = 1 then _ else if way ⟨s.n, s.v ^^^ b, s.l, s.t⟩ (turned f b (k + 1) ^^^ (s.v ^^^ b)) = 2 then Bit.of 2 2 ++ Bit.of ((turned f b (k + 1) ^^^ (s.v ^^^ b)) / 2 ^ s.t) s.win else
    Bit.of 3 2 ++ Bit.of ((⟨s.n, s.v ^^^ b, s.l, s.t⟩ : S).next (turned f b (k + 1))).l 6 ++ Bit.of (((⟨s.n, s.v ^^^ b, s.l, s.t⟩ : S).next (turned f b (k + 1))).win - 1) 6 ++ Bit.of ((turned f b (k + 1) ^^^ (s.v ^^^ b)) / 2 ^ ((⟨s.n, s.v ^^^ b, s.l, s.t⟩ : S).next (turned f b (k + 1))).t) ((⟨s.n, s.v ^^^ b, s.l, s.t⟩ : S).next (turned f b (k + 1))).win) = _
  rw [hx, hw, if_neg h0, if_neg h0]
  by_cases h1 : way s (f (k + 1) ^^^ s.v) = 1
  · rw [if_pos h1, if_pos h1]
  · rw [if_neg h1, if_neg h1]
    by_cases h22 : way s (f (k + 1) ^^^ s.v) = 2
    · rw [if_pos h22, if_pos h22]
    · have h3 : way s (f (k + 1) ^^^ s.v) = 3 := by have := way_lt s (f (k + 1) ^^^ s.v); omega
      rw [if_neg h22, if_neg h22, (hn h3).1, (hn h3).2]
      rfl
theorem turned_bits (f : Nat → Nat) (b : Nat) : ∀ k, ∃ R, bits f (k + 1) = Bit.of (f 0) 64 ++ R ∧ bits (turned f b) (k + 1) = Bit.of (turned f b 0) 64 ++ R
  | 0 => by
    have hw : ∀ v, (⟨0, 0, 64, 0⟩ : S).code v = Bit.of v 64 := fun v => by
      unfold S.code
      have h : way ⟨0, 0, 64, 0⟩ (v ^^^ 0) = 0 := way_zero.2 rfl
      rw [h, if_pos rfl]
    exact ⟨[], by show [] ++ (⟨0, 0, 64, 0⟩ : S).code (f 0) = _; rw [hw]; simp, by show [] ++ (⟨0, 0, 64, 0⟩ : S).code (turned f b 0) = _; rw [hw]; simp⟩
  | k + 1 => by
    obtain ⟨R, h1, h2⟩ := turned_bits f b k
    refine ⟨R ++ (after f (k + 1)).code (f (k + 1)), ?_, ?_⟩
    · show bits f (k + 1) ++ _ = _
      rw [h1, List.append_assoc]
    · show bits (turned f b) (k + 1) ++ _ = _
      rw [h2, turned_code f b k, List.append_assoc]
end Va
theorem Bit.at_skip (X R : List Bool) (hX : X.length = 64) (j : Nat) (hj : 8 ≤ j) : Bit.at_ (X ++ R) j = Bit.at_ R (j - 8) := by
  unfold Bit.at_
  have e : (X ++ R).drop (8 * j) = R.drop (8 * (j - 8)) := by
    rw [List.drop_append, List.drop_of_length_le (by omega), List.nil_append]
    congr 1; omega
  rw [e]
theorem Bit.text_get (B : List Bool) (j : Nat) (h : j < (Bit.text B).size) : (Bit.text B)[j] = UInt8.ofNat (Bit.at_ B j) := by
  have hs := Bit.text_size B
  have hp := Bit.pack_get B j (by unfold Bit.size; omega)
  have e : (Bit.text B)[j] = (Bit.pack B)[j]'(by rw [Bit.pack_length]; unfold Bit.size; omega) := by
    show (Bit.text B).data[j]'h = _
    simp [Bit.text]
  rw [e]
  rw [List.getElem?_eq_getElem (by rw [Bit.pack_length]; unfold Bit.size; omega)] at hp
  exact Option.some.inj hp
/-- turned values: as many bytes, and behind the first eight the same ones -/
theorem Va.turned_text (f : Nat → Nat) (b : Nat) (n : Nat) (_hn : n ≤ 900) (_hf : ∀ i, i < n → f i < 18446744073709551616) (_hb : b < 18446744073709551616) : (Bit.text (Va.bits (Va.turned f b) n)).size = (Bit.text (Va.bits f n)).size ∧
    ∀ j, 8 ≤ j → ∀ (h1 : j < (Bit.text (Va.bits f n)).size) (h2 : j < (Bit.text (Va.bits (Va.turned f b) n)).size), (Bit.text (Va.bits (Va.turned f b) n))[j] = (Bit.text (Va.bits f n))[j] := by
  cases n with
  | zero => exact ⟨rfl, fun j _ h1 h2 => rfl⟩
  | succ n =>
    obtain ⟨R, h1, h2⟩ := Va.turned_bits f b n
    constructor
    · rw [Bit.text_size, Bit.text_size, h1, h2]; simp [Bit.of_length]
    · intro j hj g1 g2
      rw [Bit.text_get _ _ g1, Bit.text_get _ _ g2, h1, h2, Bit.at_skip _ _ (Bit.of_length _ _) j hj, Bit.at_skip _ _ (Bit.of_length _ _) j hj]
set_option maxRecDepth 100000 in
set_option maxHeartbeats 1000000 in
theorem valueTurned_walk0 (w : World) (hT : TabOk w) (A : Option Addr) (len cap : Nat) (f : Nat → Nat) (_hlen : len ≤ maxLen) (hA : IntRow w A len .u64 (fun i => (f i : Int))) (b : Nat) (hb64 : b < 18446744073709551616) :
    Calls Tryd.prog 6 #[.slice A len cap, .int .u64 b] w fun e w' => e = .returned (.bool true) ∧ Below w.heap.size w w' := by
  have HFL : Hid (∀ i, i < len → f i < 18446744073709551616) := Lib.hid (fun i hi => by have := (hA.u64_lt hi).2; omega)
  have HT := Lib.hid hT; have HA := Lib.hid hA; clear hT hA
  by_cases hl : len ≤ 60
  · have d0 : decide ((60 : Int) < (len : Int)) = false := by simp; omega
    obtain ⟨i0, hi, hz0, hz1, hz2⟩ := info_parts Tryd.info_u64
    go_enter Tryd.func6, Tryd.ntmps6
    go_wp2_with fail
    refine (works_any _ HT.out).mono ?_; rintro e w1 ⟨rfl, hb1⟩
    have HB1 := Lib.hid hb1; clear hb1
    have hs1 := HB1.out.size
    go_wp2_with fail
    go_loopw [6, 7] (fun lv i wr => ∃ (k : Nat) (A2 : Option Addr) (cap2 : Nat), k ≤ len ∧ i = .int .i64 k ∧ lv = .slice A2 k cap2 ∧ wr.ownsRow w1.heap.size 29 1 (.slice A2 k cap2) k (natVals ((List.range k).map (Va.turned f b))) ∧ Below w.heap.size w wr ∧ w1.heap.size ≤ wr.heap.size) (fun _ i _ => len - (intOf i).toNat)
    case atStart => exact ⟨0, none, 0, by omega, rfl, rfl, World.ownsRow_nil _ _ _ _, HB1.out, Nat.le_refl _⟩
    case round =>
      obtain ⟨k, A2, cap2, hk, rfl, rfl, hown, hb, hsz⟩ := hrel
      have hbs := hb.size
      by_cases hlt : k < len
      · obtain ⟨ad, rfl, c0, wf0⟩ := HA.out.at_ hb hlt
        have hst : bits BinOp.xor .u64 (f k : Int) (b : Int) = ((Va.turned f b k : Nat) : Int) := u64_xor_nat _ _ (HFL.out k hlt) hb64
        have HL : Hid (natVals ((List.range (k + 1)).map (Va.turned f b)) = natVals ((List.range k).map (Va.turned f b)) ++ [.int .u64 (Va.turned f b k : Nat)]) := Lib.hid (by simp [natVals, List.range_succ])
        generalize Va.turned f b k = t at *
        generalize f k = fk at *
        have hlow := fun r hr => ((hown.alloc (.cells #[.int .u64 t] 29)).lt r hr).1
        have HLow := Lib.hid hlow; clear hlow
        go_wp2_with (at_builtin; go_must (refine wpList_append_own _ rfl _ _ 22 rfl w1.heap.size 29 i0 (.int .u64 0) 1 8 Tryd.underlying22 hi hz0 hz1 hz2 rfl (by decide) _ _ _ rfl (hown.alloc _) ⟨wr.heap.size, 0, none⟩ 1 1 [.int .u64 t] rfl rfl (cell_one_new _ _ _) (by simp [Value.oneCell']) (by unfold maxLen; omega) (by omega) (by simp; omega) ?_); intro v' w6 hown' hgrow _)
        obtain ⟨A6, c6, rfl⟩ := own_form hown'
        go_roundw
        case rel =>
          refine ⟨k + 1, A6, c6, by omega, by go_num, rfl, ?_, (hb.alloc hbs _).grown hgrow (by simp; omega) (fun r hr => Nat.le_trans hs1 (HLow.out r hr)), ?_⟩
          · rw [HL.out]; exact hown'
          · have := hgrow.size; simp at this; omega
        case measure => simp [intOf]; omega
      · obtain rfl : k = len := by omega
        have hrow := own_natRow hown (by simp) (fun t ht => by
          obtain ⟨j, hj, rfl⟩ := List.mem_map.1 ht
          exact Va.xor_lt (HFL.out j (List.mem_range.1 hj)) hb64)
        have hcong := (Va.after_congr (f := fun i => ((List.range k).map (Va.turned f b)).getD i 0) (g := Va.turned f b) k (fun i hi => by simp [List.getD, hi])).2
        have HCG := Lib.hid hcong
        have HTk : Hid (TabOk wr) := Lib.hid (HT.out.later hb)
        have HAk := Lib.hid (HA.out.later hb)
        have HR := Lib.hid hrow; have HB := Lib.hid hb
        clear hrow hcong hb hown
        go_wp2_with fail
        refine (vAll_any _ HTk.out A k cap f (by omega) HAk.out).mono ?_; rintro e w5 ⟨rfl, hb5⟩
        have HB5 := Lib.hid (HB.out.trans (hb5.mono HB.out.size)); have HR5 := Lib.hid (HR.out.later hb5); clear hb5
        have HT5 : Hid (TabOk w5) := Lib.hid (HT.out.later HB5.out)
        go_wp2_with fail
        refine (vAll_any _ HT5.out A2 k cap2 _ (by omega) HR5.out).mono ?_; rintro e w6 ⟨rfl, hb6⟩
        rw [HCG.out]
        have HB6 := Lib.hid (HB5.out.trans (hb6.mono HB5.out.size)); clear hb6
        obtain ⟨hmt1, hmt2⟩ := Va.turned_text f b k (by omega) (fun i hi => HFL.out i hi) hb64
        have hts := Bit.text_size (Va.bits f k)
        have hbl := Va.bits_length f k
        generalize Bit.text (Va.bits (Va.turned f b) k) = tb at *
        generalize Bit.text (Va.bits f k) = ta at *
        have hta : ta.size ≤ 1000 := by omega
        have HM2 := Lib.hid hmt2
        clear hts hbl hmt2
        have e1 : ((ta.size : Int) != (tb.size : Int)) = false := by simp [hmt1]
        have HM1 := Lib.hid hmt1; clear hmt1
        go_wp2_with fail
        go_loopw [10] (fun i wr => ∃ (j : Nat), 8 ≤ j ∧ (j ≤ ta.size ∨ j = 8) ∧ i = .int .i64 j ∧ Below w.heap.size w wr) (fun i _ => ta.size - (intOf i).toNat)
        case atStart => exact ⟨8, by omega, .inr rfl, rfl, HB6.out⟩
        case round =>
          obtain ⟨j, hj8, hj, rfl, hb⟩ := hrel
          have HBj := Lib.hid hb; clear hb
          by_cases hjl : j < ta.size
          · have hjb : j < tb.size := by rw [HM1.out]; exact hjl
            have hget := HM2.out j hj8 hjl hjb
            go_wp2_with fail
            go_quiet (fail)
            go_wp2_with fail
            go_roundw
            case rel => exact ⟨j + 1, by omega, by omega, by go_num, HBj.out.grown (DrewOf.grown ⟨_, rfl⟩ none) HBj.out.size (fun r e => by cases e)⟩
            case measure => simp [intOf]; omega
          · go_wp2_with fail
            go_ret
            exact ⟨rfl, HBj.out⟩
  · have d0 : decide ((60 : Int) < (len : Int)) = true := by simp; omega
    go_enter Tryd.func6, Tryd.ntmps6
    go_wp2_with fail
    refine (works_any _ HT.out).mono ?_; rintro e w1 ⟨rfl, hb1⟩
    have HB1 := Lib.hid hb1; clear hb1
    go_wp2_with fail
    go_ret
    exact ⟨rfl, HB1.out⟩
theorem valueTurned_walk {H : Type} {enc : TypeId × Value → H} {r : Reach} {b0 : Nat} {v : Value} {d : DataW H} {p : List MemPlace} (w : World) (hT : TabOk w)
    (hv : Value.okWide Tryd.prog w r b0 22 v) (h : DataW.Trod enc Tryd.prog w 0 (fun _ => true) true 22 v d p) (b : Int) (hb : (Lit.int .u64 b).wf = true) :
    Calls Tryd.prog 6 #[v, .int .u64 b] w fun e w' => e = .returned (.bool true) ∧ Below w.heap.size w w' := by
  obtain ⟨A, m, c, f, rfl, hm, hA⟩ := open_nats hv h
  obtain ⟨n, rfl, hn⟩ := u64_nat b hb
  exact valueTurned_walk0 w hT A m c f hm hA n hn.out
end Go.Proofs.YtahdfcflgicpkaaDoor
