/-
  The walk of BitsGets.
-/
import Derived.Test.YtfndlidedlbncaaDoorBitVZ
import Derived.Test.YtfndlidedlbncaaDoorInts
namespace Go.Proofs.YtfndlidedlbncaaDoor
open Go.RowKit

theorem wd_eq (n : Int) : min (max n 0) 64 = ((Bit.wd n : Nat) : Int) := by unfold Bit.wd; omega
theorem clean_both (b : ByteArray) (hb : b.size ≤ 60) (x : Nat) (hx : x ≤ 8 * b.size) : ∃ o : Bool,
    (∀ (w : World) (p : Nat), RdAt w p b x → Calls Tryd.prog 21 #[.pointer (some ⟨p, 0, none⟩)] w fun e w' => e = .returned (.bool o) ∧ Below w.heap.size w w') ∧
    (∀ w : World, Calls Tryd.prog 22 #[.string (Bit.str ((Bit.bits b).drop x))] w fun e w' => e = .returned (.bool o) ∧ w' = w) := by
  have hl : ((Bit.bits b).drop x).length = 8 * b.size - x := by rw [List.length_drop, Bit.bits_length]
  refine ⟨decide (((Bit.bits b).drop x).length < 8) && decide (Bit.val ((Bit.bits b).drop x) = 0), fun w p h => Clean_any p b (by omega) x hx w h _ ?_, fun w => rClean_any _ (by omega) w _ rfl⟩
  rw [hl]
  by_cases h8 : 8 * b.size - x < 8
  · rw [List.take_of_length_le (by rw [hl]; unfold Bit.wd; omega)]
  · simp [h8]
set_option maxRecDepth 100000 in
set_option maxHeartbeats 1000000 in
theorem bitsGets_walk0 (w : World) (hT : TabOk w) (b : ByteArray) (_hb : b.size ≤ maxLen) (A : Option Addr) (len cap : Nat) (f : Nat → Int) (_hlen : len ≤ maxLen) (hA : IntRow w A len .i64 f) :
    Calls Tryd.prog 4 #[.string b, .slice A len cap] w fun e w' => e = .returned (.bool true) ∧ Below w.heap.size w w' := by
  by_cases hall : b.size ≤ 60 ∧ len ≤ 60
  · obtain ⟨hl1, hl⟩ := hall
    have hd0 : decide ((60 : Int) < (b.size : Int)) = false := by simp; omega
    have hd1 : decide ((60 : Int) < (len : Int)) = false := by simp; omega
    have HA := Lib.hid hA; clear hA
    go_enter Tryd.func4, Tryd.ntmps4
    go_wp2_with fail
    refine (works_any _ hT).mono ?_; rintro e w1 ⟨rfl, hb1⟩
    have HB1 := Lib.hid hb1; clear hb1 hT
    go_wp2_with fail
    refine (NewReader_any b _).mono ?_; rintro e w2 ⟨rfl, hw2⟩
    have hrd : RdAt w2 w1.heap.size b 0 := by rw [hw2]; exact RowIs.one w1 _
    have hb2 : Below w.heap.size w w2 := by rw [hw2]; exact HB1.out.alloc HB1.out.size _
    have hpw : w.heap.size ≤ w1.heap.size := HB1.out.size
    generalize w1.heap.size = p at *
    have HRd := Lib.hid hrd; have HB2 := Lib.hid hb2; clear hrd hb2 hw2
    go_wp2_with fail
    refine (rOf_any b hl1 _).mono ?_; rintro e w3 ⟨rfl, rfl⟩
    go_wp2_with fail
    have hbl : (Bit.bits b).length = 8 * b.size := Bit.bits_length b
    go_loopw [7, 8] (fun s i wr => ∃ (k q : Nat), k ≤ len ∧ i = .int .i64 k ∧ s = .string (Bit.str ((Bit.bits b).drop q)) ∧ q ≤ 8 * b.size ∧ RdAt wr p b q ∧ Below w.heap.size w wr) (fun _ i _ => len - (intOf i).toNat)
    case atStart => exact ⟨0, 0, by omega, rfl, rfl, by omega, HRd.out, HB2.out⟩
    case round =>
      obtain ⟨k, q, hk, rfl, rfl, hq, hwr, hb⟩ := hrel
      have HW := Lib.hid hwr; have HB := Lib.hid hb; clear hwr hb
      by_cases hlt : k < len
      · obtain ⟨ad, rfl, c0, wf0⟩ := HA.out.at_ HB.out hlt
        generalize f k = nn at *
        clear wf0
        have hss : (Bit.str ((Bit.bits b).drop q)).size = 8 * b.size - q := by rw [Bit.str_size, List.length_drop, hbl]
        have hwd := wd_eq nn
        rcases Nat.lt_or_ge (8 * b.size) (q + Bit.wd nn) with hno | hyes
        · have hd2 : 8 * b.size - q < Bit.wd nn := by omega
          go_wp2_with fail
          refine (Get_no p b (by omega) q hq nn wr HW.out hno).mono ?_; rintro e w4 ⟨rfl, hb4⟩
          have HW4 := Lib.hid (HW.out.below hb4); have HB4 := Lib.hid (HB.out.trans (hb4.mono HB.out.size)); clear hb4
          go_wp2_with fail
          obtain ⟨o, hc1, hc2⟩ := clean_both b hl1 (q) (by omega)
          refine (Left_any p b (by omega) (q) (by omega) _ HW4.out).mono ?_; rintro e w5 ⟨rfl, hd5⟩
          have HW5 := Lib.hid (HW4.out.drewOf hd5); have HB5 := Lib.hid (HB4.out.grown (hd5.grown none) HB4.out.size (fun r e => by cases e)); clear hd5
          go_wp2_with fail
          refine (hc1 _ p HW5.out).mono ?_; rintro e w6 ⟨rfl, hb6⟩
          have HW6 := Lib.hid (HW5.out.below hb6); have HB6 := Lib.hid (HB5.out.trans (hb6.mono HB5.out.size)); clear hb6
          go_wp2_with fail
          refine (hc2 _).mono ?_; rintro e wx ⟨rfl, rfl⟩
          go_wp2_with fail
          go_roundw
          case rel => exact ⟨k + 1, q, by omega, by go_num, rfl, by omega, HW6.out, HB6.out⟩
          case measure => simp [intOf]; omega
        · have hd2 : ¬ (8 * b.size - q < Bit.wd nn) := by omega
          have hx1 : (Bit.str ((Bit.bits b).drop q)).extract 0 (Bit.wd nn) = Bit.str (((Bit.bits b).drop q).take (Bit.wd nn)) := by rw [Bit.str_extract, List.drop_zero, Nat.sub_zero]
          have hx2 : (Bit.str ((Bit.bits b).drop q)).extract (Bit.wd nn) (8 * b.size - q) = Bit.str ((Bit.bits b).drop (q + Bit.wd nn)) := by
            rw [Bit.str_extract, List.drop_drop, List.take_of_length_le (by rw [List.length_drop, hbl]; omega)]
          have hln : (((Bit.bits b).drop q).take (Bit.wd nn)).length ≤ 64 := by rw [List.length_take]; have := Bit.wd_le nn; omega
          have hss2 : (Bit.str ((Bit.bits b).drop (q + Bit.wd nn))).size = 8 * b.size - (q + Bit.wd nn) := by rw [Bit.str_size, List.length_drop, hbl]
          go_wp2_with fail
          refine (Get_yes p b (by omega) q nn wr HW.out hyes).mono ?_; rintro e w4 ⟨rfl, hr4, hf4⟩
          have HW4 := Lib.hid hr4; have HB4 := Lib.hid (HB.out.trans (hf4.below HB.out.size (fun k hk => (by have h0 : k = p := hk; omega)))); clear hr4 hf4
          go_wp2_with fail
          refine (rNumber_any _ hln _).mono ?_; rintro e wx ⟨rfl, rfl⟩
          go_wp2_with fail
          obtain ⟨o, hc1, hc2⟩ := clean_both b hl1 (q + Bit.wd nn) (by omega)
          refine (Left_any p b (by omega) (q + Bit.wd nn) (by omega) _ HW4.out).mono ?_; rintro e w5 ⟨rfl, hd5⟩
          have HW5 := Lib.hid (HW4.out.drewOf hd5); have HB5 := Lib.hid (HB4.out.grown (hd5.grown none) HB4.out.size (fun r e => by cases e)); clear hd5
          go_wp2_with fail
          refine (hc1 _ p HW5.out).mono ?_; rintro e w6 ⟨rfl, hb6⟩
          have HW6 := Lib.hid (HW5.out.below hb6); have HB6 := Lib.hid (HB5.out.trans (hb6.mono HB5.out.size)); clear hb6
          go_wp2_with fail
          refine (hc2 _).mono ?_; rintro e wx ⟨rfl, rfl⟩
          go_wp2_with fail
          go_roundw
          case rel => exact ⟨k + 1, q + Bit.wd nn, by omega, by go_num, rfl, by omega, HW6.out, HB6.out⟩
          case measure => simp [intOf]; omega
      · go_wp2_with fail
        go_ret
        exact ⟨rfl, HB.out⟩
  · rcases Nat.lt_or_ge 60 b.size with hb1 | hb1
    · have hd0 : decide ((60 : Int) < (b.size : Int)) = true := by simp; omega
      go_enter Tryd.func4, Tryd.ntmps4
      go_wp2_with fail
      refine (works_any _ hT).mono ?_; rintro e w1 ⟨rfl, hb1⟩
      have HB1 := Lib.hid hb1; clear hb1 hT
      go_wp2_with fail
      refine (NewReader_any b _).mono ?_; rintro e w2 ⟨rfl, hw2⟩
      have hb2 : Below w.heap.size w w2 := by rw [hw2]; exact HB1.out.alloc HB1.out.size _
      have HB2 := Lib.hid hb2; clear hb2 hw2
      go_wp2_with fail
      go_ret
      exact ⟨rfl, HB2.out⟩
    · have hd0 : decide ((60 : Int) < (b.size : Int)) = false := by simp; omega
      have hd1 : decide ((60 : Int) < (len : Int)) = true := by simp; omega
      go_enter Tryd.func4, Tryd.ntmps4
      go_wp2_with fail
      refine (works_any _ hT).mono ?_; rintro e w1 ⟨rfl, hb1⟩
      have HB1 := Lib.hid hb1; clear hb1 hT
      go_wp2_with fail
      refine (NewReader_any b _).mono ?_; rintro e w2 ⟨rfl, hw2⟩
      have hb2 : Below w.heap.size w w2 := by rw [hw2]; exact HB1.out.alloc HB1.out.size _
      have HB2 := Lib.hid hb2; clear hb2 hw2
      go_wp2_with fail
      go_ret
      exact ⟨rfl, HB2.out⟩
theorem bitsGets_walk {H : Type} {enc : TypeId × Value → H} {r : Reach} {b0 : Nat} {v : Value} {d : DataW H} {p : List MemPlace} (w : World) (hT : TabOk w) (b : ByteArray) (hb : b.size ≤ maxLen)
    (hv : Value.okWide Tryd.prog w r b0 35 v) (h : DataW.Trod enc Tryd.prog w 0 (fun _ => true) true 35 v d p) :
    Calls Tryd.prog 4 #[.string b, v] w fun e w' => e = .returned (.bool true) ∧ Below w.heap.size w w' := by
  obtain ⟨A, n, c, f, rfl, hn, hA⟩ := open_ints_row (k := .i64) Tryd.underlying35 Tryd.underlying3 (by kernel_rfl) hv h
  exact bitsGets_walk0 w hT b hb A n c f hn hA
end Go.Proofs.YtfndlidedlbncaaDoor
