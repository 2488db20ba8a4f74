/-
  The walks of the laws: BitsCounts, BitsPuts.
-/
import Derived.Test.YtfndlidedlbncaaDoorBitW
import Derived.Test.YtfndlidedlbncaaDoorPairs
namespace Go.Proofs.YtfndlidedlbncaaDoor
open Go.RowKit

theorem Far.undrew {w W : World} {S : Nat → Prop} (h : Far w.drew W S) : Far w W S := ⟨h.os, h.tape, h.output, h.size, h.same⟩
theorem WrAt.drew {w : World} {base p cap : Nat} {A : Option Addr} {B : List Bool} (h : WrAt w base p A cap B) : WrAt w.drew base p A cap B := RowAt.keep h rfl (fun _ _ => rfl)
theorem u64_nat (c : Int) (h : (Lit.int .u64 c).wf = true) : ∃ n : Nat, c = n ∧ Hid (n < 18446744073709551616) := by
  have hx : 0 ≤ c ∧ c ≤ 18446744073709551615 := by simpa [Lit.wf, IntKind.min, IntKind.max, IntKind.signed, IntKind.bits] using h
  exact ⟨c.toNat, by omega, Lib.hid (by omega)⟩

set_option maxRecDepth 100000 in
set_option maxHeartbeats 400000 in
theorem bitsCounts_walk (w : World) (hT : TabOk w) (v : Int) (hv : (Lit.int .u64 v).wf = true) :
    Calls Tryd.prog 5 #[.int .u64 v] w fun e w' => e = .returned (.bool true) ∧ Below w.heap.size w w' := by
  obtain ⟨n, rfl, HN⟩ := u64_nat v hv
  clear hv
  have HT := Lib.hid hT; clear hT
  have hb := fun h => Bit.both_ends n HN.out h
  have h1 := fun W => Lead_any n HN.out W
  have h2 := fun W hW => Trail_any n HN.out W hW
  have h3 := fun W => rLead_any n HN W
  have h4 := fun W => rTrail_any n HN W
  have hz : n = 0 → Lib.bitLen n = 0 ∧ Lib.ctz 64 n = 64 := fun h => by subst h; exact ⟨rfl, rfl⟩
  have hle := Lib.bitLen_le n 64 (by omega) HN.out
  generalize Lib.bitLen n = a at *
  generalize Lib.ctz 64 n = b at *
  have H1 := Lib.hid h1; have H2 := Lib.hid h2; have H3 := Lib.hid h3; have H4 := Lib.hid h4
  clear h1 h2 h3 h4
  go_enter Tryd.func5, Tryd.ntmps5
  go_wp2_with fail
  refine (works_any _ HT.out).mono ?_; rintro e w1 ⟨rfl, hb1⟩
  have HB := Lib.hid hb1; clear hb1
  go_wp2_with fail
  refine (H1.out _).mono ?_; rintro e wx ⟨rfl, rfl⟩
  go_wp2_with fail
  refine (H2.out _ (HT.out.later HB.out)).mono ?_; rintro e wx ⟨rfl, rfl⟩
  go_wp2_with fail
  refine (H3.out _).mono ?_; rintro e wx ⟨rfl, rfl⟩
  go_wp2_with fail
  refine (H4.out _).mono ?_; rintro e wx ⟨rfl, rfl⟩
  rcases Nat.eq_zero_or_pos n with h0 | h0
  · obtain ⟨rfl, rfl⟩ := hz h0
    subst h0
    go_wp2_with fail
    go_ret
    exact ⟨rfl, HB.out⟩
  · obtain ⟨h5, -⟩ := hb h0
    have e1 : ((n : Int) == 0) = false := by simp; omega
    have e2 : decide ((0 : Int) < (n : Int)) = true := by simp; omega
    clear hb hz
    go_wp2_with fail
    all_goals go_ret
    all_goals refine ⟨?_, HB.out⟩
    all_goals simp
    all_goals omega

set_option maxRecDepth 100000 in
set_option maxHeartbeats 1000000 in
theorem bitsPuts_walk0 (w : World) (hT : TabOk w) (A : Option Addr) (len cap : Nat) (f : Nat → Int × Int) (_hlen : len ≤ maxLen) (hA : PairRow w A len .u64 .i64 f) :
    Calls Tryd.prog 3 #[.slice A len cap] w fun e w' => e = .returned (.bool true) ∧ Below w.heap.size w w' := by
  by_cases hl : len ≤ 60
  · have hd1 : decide ((60 : Int) < (len : Int)) = false := by simp; omega
    have HA := Lib.hid hA; clear hA
    go_enter Tryd.func3, Tryd.ntmps3
    go_wp2_with fail
    refine (works_any _ hT).mono ?_; rintro e w1 ⟨rfl, hb1⟩
    have HB1 := Lib.hid hb1; clear hb1 hT
    go_wp2_with fail
    refine (NewWriter_any _).mono ?_; rintro e w2 ⟨rfl, hw2⟩
    have hwr : WrAt w2 w.heap.size w1.heap.size none 0 [] := by rw [hw2]; exact WrAt.new w1 _
    have hb2 : Below w.heap.size w w2 := by rw [hw2]; exact HB1.out.alloc HB1.out.size _
    have hpw : w.heap.size ≤ w1.heap.size := HB1.out.size
    generalize w1.heap.size = p at *
    have HWr := Lib.hid hwr; have HB2 := Lib.hid hb2; clear hwr hb2 hw2
    go_wp2_with fail
    go_loopw [5, 6] (fun s i wr => ∃ (k : Nat) (B : List Bool) (A2 : Option Addr) (cap2 : Nat), k ≤ len ∧ i = .int .i64 k ∧ s = .string (Bit.str B) ∧ B.length ≤ 64 * k ∧ WrAt wr w.heap.size p A2 cap2 B ∧ Below w.heap.size w wr) (fun _ i _ => len - (intOf i).toNat)
    case atStart => exact ⟨0, [], none, 0, by omega, rfl, rfl, by simp, HWr.out, HB2.out⟩
    case round =>
      obtain ⟨k, B, A2, cap2, hk, rfl, rfl, hB, hwr, hb⟩ := hrel
      have HW := Lib.hid hwr; have HB := Lib.hid hb; clear hwr hb
      by_cases hlt : k < len
      · obtain ⟨ad, rfl, c0, _, wf0, wf1⟩ := HA.out.at_ HB.out hlt
        obtain ⟨-, c1⟩ := HA.out.more HB.out hlt
        have HM := Lib.hid (fun W hW => HA.out.more (w2 := W) hW hlt)
        generalize (f k).1 = kd at *
        generalize (f k).2 = nn at *
        obtain ⟨v, rfl, HV⟩ := u64_nat kd wf0
        clear wf0 wf1
        go_wp2_with fail
        refine plain_still_tail 11 (by kernel_rfl) (by kernel_rfl) ?_
        simp only [List.take_succ_cons, List.take_zero, List.drop_succ_cons, List.drop_zero]
        repeat still_step
        refine wpStill_nil ?_
        go_wp2_with fail
        have hrb := fun W => rBits_any v HV nn W
        have hbits : Bit.str B ++ Bit.str (Bit.of v (Bit.wd nn)) = Bit.str (B ++ Bit.of v (Bit.wd nn)) := Bit.str_append _ _
        have hlen : (B ++ Bit.of v (Bit.wd nn)).length ≤ 64 * (k + 1) := by have := Bit.wd_le nn; rw [List.length_append, Bit.of_length]; omega
        refine (Put_any w.heap.size p A2 cap2 B (by omega) v HV nn wr.drew HW.out.drew (by have := HB.out.size; exact this)).mono ?_
        rintro e w3 ⟨rfl, A3, cap3, hw3, _, hF⟩
        generalize B ++ Bit.of v (Bit.wd nn) = B3 at *
        have hb3 : Below w.heap.size w w3 := HB.out.trans (hF.undrew.below HB.out.size (putSet_base HW.out hpw))
        have HB3 := Lib.hid hb3; have HW3 := Lib.hid hw3; clear hb3 hw3 hF
        obtain ⟨d0, d1⟩ := HM.out w3 HB3.out
        go_wp2_with fail
        have hsz : ¬ 9223372036854775807 < (Bit.str B).size + (Bit.str (Bit.of v (Bit.wd nn))).size := by rw [Bit.str_size, Bit.str_size, Bit.of_length]; have := Bit.wd_le nn; omega
        go_quiet (refine Calls.quiet_of_same (hrb _))
        go_wp2_with fail
        have hss : (Bit.str B3).size = B3.length := Bit.str_size B3
        have hw4 : WrAt (w3.drewN nq) w.heap.size p A3 cap3 B3 := RowAt.keep HW3.out rfl (fun _ _ => rfl)
        have hb4 : Below w.heap.size w (w3.drewN nq) := HB3.out.grown (DrewOf.grown ⟨nq, rfl⟩ none) HB3.out.size (fun r e => by cases e)
        clear HM d0 d1 c0 c1 HW HB HA hrb hbits hsz
        generalize w3.drewN nq = w4 at *
        have HW4 := Lib.hid hw4; have HB4 := Lib.hid hb4; clear hw4 hb4
        refine (Len_any w4 HW4.out).mono ?_; rintro e wx ⟨rfl, rfl⟩
        go_wp2_with fail
        refine (Bytes_any _ HW4.out).mono ?_; rintro e wx ⟨rfl, rfl⟩
        go_wp2_with fail
        refine (rBytes_any B3 (by omega) _).mono ?_; rintro e w5 ⟨rfl, hb5⟩
        have HW5 := Lib.hid (HW4.out.later hb5); have HB5 := Lib.hid (HB4.out.trans (hb5.mono HB4.out.size)); clear hb5
        go_wp2_with fail
        go_roundw
        case rel => exact ⟨k + 1, B3, A3, cap3, by omega, by go_num, rfl, hlen, HW5.out, HB5.out⟩
        case measure => simp [intOf]; omega
      · go_wp2_with fail
        go_ret
        exact ⟨rfl, HB.out⟩
  · have hd1 : decide ((60 : Int) < (len : Int)) = true := by simp; omega
    go_enter Tryd.func3, Tryd.ntmps3
    go_wp2_with fail
    refine (works_any _ hT).mono ?_; rintro e w1 ⟨rfl, hb1⟩
    have HB1 := Lib.hid hb1; clear hb1 hT
    go_wp2_with fail
    refine (NewWriter_any _).mono ?_; rintro e w2 ⟨rfl, hw2⟩
    have hb2 : Below w.heap.size w w2 := by rw [hw2]; exact HB1.out.alloc HB1.out.size _
    have HB2 := Lib.hid hb2; clear hb2 hw2
    go_wp2_with fail
    go_ret
    exact ⟨rfl, HB2.out⟩
end Go.Proofs.YtfndlidedlbncaaDoor
