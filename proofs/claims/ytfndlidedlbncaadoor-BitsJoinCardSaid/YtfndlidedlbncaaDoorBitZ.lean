/-
  The walk of BitsRoom.
-/
import Derived.Test.YtfndlidedlbncaaDoorBitY
namespace Go.Proofs.YtfndlidedlbncaaDoor
open Go.RowKit

theorem Bit.puts_len_succ (f : Nat → Int × Int) (k : Nat) : (Bit.puts f (k + 1)).length = (Bit.puts f k).length + Bit.wd (f k).2 := by simp only [Bit.puts, List.length_append, Bit.of_length]
set_option maxRecDepth 100000 in
set_option maxHeartbeats 1000000 in
theorem bitsRoom_walk0 (w : World) (hT : TabOk w) (A : Option Addr) (len cap : Nat) (f : Nat → Int × Int) (_hlen : len ≤ maxLen) (hA : PairRow w A len .u64 .i64 f) (b : ByteArray) (_hb : b.size ≤ maxLen) :
    Calls Tryd.prog 8 #[.slice A len cap, .string b] w fun e w' => e = .returned (.bool true) ∧ Below w.heap.size w w' := by
  by_cases hall : len ≤ 60 ∧ b.size ≤ 60
  · obtain ⟨hl, hl1⟩ := hall
    have hd0 : decide ((60 : Int) < (b.size : Int)) = false := by simp; omega
    have hd1 : decide ((60 : Int) < (len : Int)) = false := by simp; omega
    have HA := Lib.hid hA; clear hA
    go_enter Tryd.func8, Tryd.ntmps8
    go_wp2_with fail
    refine (works_any _ hT).mono ?_; rintro e w1 ⟨rfl, hb1⟩
    have HB1 := Lib.hid hb1; clear hb1 hT
    go_wp2_with fail
    refine (NewWriter_any _).mono ?_; rintro e w2 ⟨rfl, hw2⟩
    have hwr : WrAt w2 w.heap.size w1.heap.size none 0 [] := by rw [hw2]; exact WrAt.new w1 _
    have hb2 : Below w.heap.size w w2 := by rw [hw2]; exact HB1.out.alloc HB1.out.size _
    have hpw : w.heap.size ≤ w1.heap.size := HB1.out.size
    generalize w1.heap.size = p at *
    have HWr := Lib.hid hwr; have HB2 := Lib.hid hb2; clear hwr hb2 hw2
    go_wp2_with fail
    refine (NewReader_any b _).mono ?_; rintro e w4 ⟨rfl, hw4⟩
    have hpair : Pair w w4 p none 0 [] w2.heap.size b 0 := by
      have hb4 : Below w.heap.size w w4 := by rw [hw4]; exact HB2.out.alloc HB2.out.size _
      refine ⟨?_, by rw [hw4]; exact RowIs.one _ _, hb4, hpw, HB2.out.size⟩
      rw [hw4]; exact HWr.out.later ((Below.refl _ _).alloc (Nat.le_refl _) _)
    generalize w2.heap.size = r at *
    clear hw4 HWr HB2
    have HP := Lib.hid hpair; clear hpair
    go_wp2_with fail
    go_loopw [8, 9] (fun n i wr => ∃ (k : Nat) (A2 : Option Addr) (cap2 : Nat), k ≤ len ∧ i = .int .i64 k ∧ n = .int .i64 ((Bit.puts f k).length : Nat) ∧ Pair w wr p A2 cap2 (Bit.puts f k) r b 0) (fun _ i _ => len - (intOf i).toNat)
    case atStart => exact ⟨0, none, 0, by omega, rfl, rfl, HP.out⟩
    case round =>
      obtain ⟨k, A2, cap2, hk, rfl, rfl, hpr⟩ := hrel
      have HR := Lib.hid hpr; clear hpr
      have hB := Bit.puts_length f k
      by_cases hlt : k < len
      · obtain ⟨ad, rfl, c0, _, wf0, wf1⟩ := HA.out.at_ HR.out.bel hlt
        obtain ⟨-, c1⟩ := HA.out.more HR.out.bel hlt
        have HM := Lib.hid (fun W hW => HA.out.more (w2 := W) hW hlt)
        have HNx : Hid (Bit.puts f (k + 1) = Bit.puts f k ++ Bit.of (f k).1.toNat (Bit.wd (f k).2)) := Lib.hid rfl
        have HNl := Lib.hid (Bit.puts_len_succ f k)
        generalize Bit.puts f k = B at *
        generalize (f k).1 = kd at *
        generalize (f k).2 = nn at *
        obtain ⟨v, rfl, HV⟩ := u64_nat kd wf0
        clear wf0 wf1
        have hwd := wd_eq nn
        have hwl := Bit.wd_le nn
        go_wp2_with fail
        refine plain_still_tail 11 (by kernel_rfl) (by kernel_rfl) ?_
        simp only [List.take_succ_cons, List.take_zero, List.drop_succ_cons, List.drop_zero]
        repeat still_step
        refine wpStill_nil ?_
        go_wp2_with fail
        refine (Put_any w.heap.size p A2 cap2 B (by omega) v HV nn wr.drew HR.out.wr.drew (by have := HR.out.bel.size; exact this)).mono ?_
        rintro e w3 ⟨rfl, A3, cap3, hw3, _, hF⟩
        have HR3 := Lib.hid (HR.out.put hw3 hF.undrew); clear hw3 hF
        obtain ⟨d0, d1⟩ := HM.out w3 HR3.out.bel
        go_wp2_with fail
        go_roundw
        case rel => exact ⟨k + 1, A3, cap3, by omega, by go_num, by rw [HNl.out]; go_num, by rw [HNx.out]; exact HR3.out⟩
        case measure => simp [intOf]; omega
      · obtain rfl : k = len := by omega
        have hts := Bit.text_size (Bit.puts f k)
        go_wp2_with fail
        refine (Len_any _ HR.out.wr).mono ?_; rintro e wx ⟨rfl, rfl⟩
        go_wp2_with fail
        refine (Bytes_any _ HR.out.wr).mono ?_; rintro e wx ⟨rfl, rfl⟩
        go_wp2_with fail
        refine (Left_any r _ (by omega) _ (by omega) _ HR.out.rd).mono ?_; rintro e w7 ⟨rfl, hd7⟩
        have HR7 := Lib.hid (HR.out.drewOf hd7); clear hd7
        go_wp2_with fail
        go_ret
        exact ⟨rfl, HR7.out.bel⟩
  · have hd : 60 < len ∨ (len ≤ 60 ∧ 60 < b.size) := by omega
    rcases hd with hl | ⟨hl, hl1⟩
    · have hd1 : decide ((60 : Int) < (len : Int)) = true := by simp; omega
      go_enter Tryd.func8, Tryd.ntmps8
      go_wp2_with fail
      refine (works_any _ hT).mono ?_; rintro e w1 ⟨rfl, hb1⟩
      have HB1 := Lib.hid hb1; clear hb1 hT
      go_wp2_with fail
      refine (NewWriter_any _).mono ?_; rintro e w2 ⟨rfl, hw2⟩
      have hb2 : Below w.heap.size w w2 := by rw [hw2]; exact HB1.out.alloc HB1.out.size _
      have HB2 := Lib.hid hb2; clear hb2 hw2
      go_wp2_with fail
      refine (NewReader_any b _).mono ?_; rintro e w4 ⟨rfl, hw4⟩
      have hb4 : Below w.heap.size w w4 := by rw [hw4]; exact HB2.out.alloc HB2.out.size _
      have HB4 := Lib.hid hb4; clear hb4 hw4
      go_wp2_with fail
      go_ret
      exact ⟨rfl, HB4.out⟩
    · have hd1 : decide ((60 : Int) < (len : Int)) = false := by simp; omega
      have hd0 : decide ((60 : Int) < (b.size : Int)) = true := by simp; omega
      go_enter Tryd.func8, Tryd.ntmps8
      go_wp2_with fail
      refine (works_any _ hT).mono ?_; rintro e w1 ⟨rfl, hb1⟩
      have HB1 := Lib.hid hb1; clear hb1 hT
      go_wp2_with fail
      refine (NewWriter_any _).mono ?_; rintro e w2 ⟨rfl, hw2⟩
      have hb2 : Below w.heap.size w w2 := by rw [hw2]; exact HB1.out.alloc HB1.out.size _
      have HB2 := Lib.hid hb2; clear hb2 hw2
      go_wp2_with fail
      refine (NewReader_any b _).mono ?_; rintro e w4 ⟨rfl, hw4⟩
      have hb4 : Below w.heap.size w w4 := by rw [hw4]; exact HB2.out.alloc HB2.out.size _
      have HB4 := Lib.hid hb4; clear hb4 hw4
      go_wp2_with fail
      go_ret
      exact ⟨rfl, HB4.out⟩
theorem bitsRoom_walk {H : Type} {enc : TypeId × Value → H} {r : Reach} {b0 : Nat} {v : Value} {d : DataW H} {p : List MemPlace} (w : World) (hT : TabOk w)
    (hv : Value.okWide Tryd.prog w r b0 22 v) (h : DataW.Trod enc Tryd.prog w 0 (fun _ => true) true 22 v d p) (b : ByteArray) (hb : b.size ≤ maxLen) :
    Calls Tryd.prog 8 #[v, .string b] w fun e w' => e = .returned (.bool true) ∧ Below w.heap.size w w' := by
  obtain ⟨A, n, c, f, rfl, hn, hA⟩ := open_puts hv h
  exact bitsRoom_walk0 w hT A n c f hn hA b hb
end Go.Proofs.YtfndlidedlbncaaDoor
