/-
  The walk of BitsBack.
-/
import Derived.Test.YtfndlidedlbncaaDoorBitX
namespace Go.Proofs.YtfndlidedlbncaaDoor
open Go.RowKit

/-- what the first k puts lay down -/
def Bit.puts (f : Nat → Int × Int) : Nat → List Bool
  | 0 => []
  | k + 1 => Bit.puts f k ++ Bit.of (f k).1.toNat (Bit.wd (f k).2)
theorem Bit.puts_length (f : Nat → Int × Int) : ∀ k, (Bit.puts f k).length ≤ 64 * k
  | 0 => by simp [Bit.puts]
  | k + 1 => by
    have := Bit.puts_length f k
    have := Bit.wd_le (f k).2
    simp only [Bit.puts, List.length_append, Bit.of_length]; omega
theorem Bit.puts_more (f : Nat → Int × Int) (k : Nat) : ∀ n, k ≤ n → ∃ R, Bit.puts f n = Bit.puts f k ++ R := fun n h => by
  induction n with
  | zero => obtain rfl : k = 0 := by omega
            exact ⟨[], by simp⟩
  | succ n ih =>
    by_cases hk : k = n + 1
    · exact ⟨[], by simp [hk]⟩
    · obtain ⟨R, hR⟩ := ih (by omega)
      exact ⟨R ++ Bit.of (f n).1.toNat (Bit.wd (f n).2), by simp [Bit.puts, hR]⟩
theorem Bit.puts_at (f : Nat → Int × Int) {k n : Nat} (h : k < n) (R0 : List Bool) : ((Bit.puts f n ++ R0).drop (Bit.puts f k).length).take (Bit.wd (f k).2) = Bit.of (f k).1.toNat (Bit.wd (f k).2) := by
  obtain ⟨R, hR⟩ := Bit.puts_more f (k + 1) n h
  rw [hR, Bit.puts, List.append_assoc, List.append_assoc, List.drop_left]
  rw [List.take_append_of_le_length (by rw [Bit.of_length]; omega), List.take_of_length_le (by rw [Bit.of_length]; omega)]
theorem Bit.puts_within (f : Nat → Int × Int) {k n : Nat} (h : k < n) : (Bit.puts f k).length + Bit.wd (f k).2 ≤ (Bit.puts f n).length := by
  obtain ⟨R, hR⟩ := Bit.puts_more f (k + 1) n h
  rw [hR]; simp only [Bit.puts, List.length_append, Bit.of_length]; omega
theorem wrap_two (m : Nat) (h : m < 64) : IntKind.u64.wrap (2 ^ m) = (2 : Int) ^ m := by
  have h1 : (2 : Nat) ^ m < 2 ^ 64 := Nat.pow_lt_pow_right (by decide) h
  have h2 : ((2 ^ m : Nat) : Int) = (2 : Int) ^ m := by norm_cast
  rw [← h2]
  generalize 2 ^ m = k at *
  unfold IntKind.wrap; simp [IntKind.bits, IntKind.signed]; omega
theorem Bit.wd_wd (n : Int) : Bit.wd ((Bit.wd n : Nat) : Int) = Bit.wd n := by unfold Bit.wd; omega
theorem Bit.val_zeros : ∀ n, Bit.val (List.replicate n false) = 0
  | 0 => rfl
  | n + 1 => by simp [List.replicate_succ, Bit.val, Bit.val_zeros n]
/-- what is left when all that was put is read: less than eight bits, all of them zero -/
theorem text_end (B : List Bool) : (Bit.bits (Bit.text B)).drop B.length = List.replicate (8 * (Bit.text B).size - B.length) false ∧ 8 * (Bit.text B).size - B.length < 8 ∧ B.length ≤ 8 * (Bit.text B).size := by
  have h := Bit.text_size B
  refine ⟨?_, by omega, by omega⟩
  rw [Bit.text_bits, List.drop_left, Bit.text_size]; rfl
theorem Clean_end (B : List Bool) (hB : B.length ≤ 4000) (w : World) (p : Nat) (h : RdAt w p (Bit.text B) B.length) :
    Calls Tryd.prog 21 #[.pointer (some ⟨p, 0, none⟩)] w fun e w' => e = .returned (.bool true) ∧ Below w.heap.size w w' := by
  obtain ⟨h1, h2, h3⟩ := text_end B
  have hz := Bit.text_size B
  refine Clean_any p _ (by omega) _ h3 w h true ?_
  rw [h1, List.take_replicate, Bit.val_zeros]
  simp [h2]

set_option maxRecDepth 100000 in
set_option maxHeartbeats 1000000 in
theorem bitsBack_walk0 (w : World) (hT : TabOk w) (A : Option Addr) (len cap : Nat) (f : Nat → Int × Int) (_hlen : len ≤ maxLen) (hA : PairRow w A len .u64 .i64 f) :
    Calls Tryd.prog 6 #[.slice A len cap] w fun e w' => e = .returned (.bool true) ∧ Below w.heap.size w w' := by
  by_cases hl : len ≤ 60
  · have hd1 : decide ((60 : Int) < (len : Int)) = false := by simp; omega
    have HA := Lib.hid hA; clear hA
    go_enter Tryd.func6, Tryd.ntmps6
    go_wp2_with fail
    refine (works_any _ hT).mono ?_; rintro e w1 ⟨rfl, hb1⟩
    have HB1 := Lib.hid hb1; clear hb1 hT
    go_wp2_with fail
    refine (NewWriter_any _).mono ?_; rintro e w2 ⟨rfl, hw2⟩
    have hwr : WrAt w2 w.heap.size w1.heap.size none 0 [] := by rw [hw2]; exact WrAt.new w1 _
    have hb2 : Below w.heap.size w w2 := by rw [hw2]; exact HB1.out.alloc HB1.out.size _
    have hpw : w.heap.size ≤ w1.heap.size := HB1.out.size
    generalize w1.heap.size = p at *
    have HWr := Lib.hid hwr; have HB2 := Lib.hid hb2; clear hwr hb2 hw2
    go_wp2_with fail
    go_loopw [5] (fun i wr => ∃ (k : Nat) (A2 : Option Addr) (cap2 : Nat), k ≤ len ∧ i = .int .i64 k ∧ WrAt wr w.heap.size p A2 cap2 (Bit.puts f k) ∧ Below w.heap.size w wr) (fun i _ => len - (intOf i).toNat)
    case atStart => exact ⟨0, none, 0, by omega, rfl, HWr.out, HB2.out⟩
    case round =>
      obtain ⟨k, A2, cap2, hk, rfl, hwr, hb⟩ := hrel
      have HW := Lib.hid hwr; have HB := Lib.hid hb; clear hwr hb
      have hB := Bit.puts_length f k
      by_cases hlt : k < len
      · obtain ⟨ad, rfl, c0, _, wf0, wf1⟩ := HA.out.at_ HB.out hlt
        obtain ⟨-, c1⟩ := HA.out.more HB.out hlt
        have HNx : Hid (Bit.puts f (k + 1) = Bit.puts f k ++ Bit.of (f k).1.toNat (Bit.wd (f k).2)) := Lib.hid rfl
        generalize Bit.puts f k = B at *
        generalize (f k).1 = kd at *
        generalize (f k).2 = nn at *
        obtain ⟨v, rfl, HV⟩ := u64_nat kd wf0
        clear wf0 wf1
        go_wp2_with fail
        refine plain_still_tail 11 (by kernel_rfl) (by kernel_rfl) ?_
        simp only [List.take_succ_cons, List.take_zero, List.drop_succ_cons, List.drop_zero]
        repeat still_step
        refine wpStill_nil ?_
        go_wp2_with fail
        refine (Put_any w.heap.size p A2 cap2 B (by omega) v HV nn wr.drew HW.out.drew (by have := HB.out.size; exact this)).mono ?_
        rintro e w3 ⟨rfl, A3, cap3, hw3, _, hF⟩
        have hb3 : Below w.heap.size w w3 := HB.out.trans (hF.undrew.below HB.out.size (putSet_base HW.out hpw))
        have HB3 := Lib.hid hb3; have HW3 := Lib.hid hw3; clear hb3 hw3 hF
        go_wp2_with fail
        go_roundw
        case rel => exact ⟨k + 1, A3, cap3, by omega, by go_num, by rw [HNx.out]; exact HW3.out, HB3.out⟩
        case measure => simp [intOf]; omega
      · obtain rfl : k = len := by omega
        go_wp2_with fail
        refine (Bytes_any _ HW.out).mono ?_; rintro e wx ⟨rfl, rfl⟩
        go_wp2_with fail
        refine (NewReader_any (Bit.text (Bit.puts f k)) _).mono ?_; rintro e w4 ⟨rfl, hw4⟩
        have hpair : Pair w w4 p A2 cap2 (Bit.puts f k) wx.heap.size (Bit.text (Bit.puts f k)) 0 := by
          have hb4 : Below w.heap.size w w4 := by rw [hw4]; exact HB.out.alloc HB.out.size _
          refine ⟨?_, by rw [hw4]; exact RowIs.one _ _, hb4, hpw, HB.out.size⟩
          rw [hw4]; exact HW.out.later ((Below.refl _ _).alloc (Nat.le_refl _) _)
        generalize wx.heap.size = r at *
        clear hw4 HW HB HWr HB2
        have HP := Lib.hid hpair; clear hpair
        have hts := Bit.text_size (Bit.puts f k)
        go_wp2_with fail
        go_loopw [7] (fun i wr => ∃ (j : Nat), j ≤ k ∧ i = .int .i64 j ∧ Pair w wr p A2 cap2 (Bit.puts f k) r (Bit.text (Bit.puts f k)) (Bit.puts f j).length) (fun i _ => k - (intOf i).toNat)
        case atStart => exact ⟨0, by omega, rfl, HP.out⟩
        case round =>
          obtain ⟨j, hj, rfl, hpr⟩ := hrel
          have HR := Lib.hid hpr; clear hpr
          by_cases hjl : j < k
          · obtain ⟨ad, rfl, c0, _, wf0, wf1⟩ := HA.out.at_ HR.out.bel hjl
            obtain ⟨-, c1⟩ := HA.out.more HR.out.bel hjl
            have HM := Lib.hid (fun W hW => HA.out.more (w2 := W) hW hjl)
            have hval := Bit.puts_at f hjl (List.replicate (8 * Bit.size (Bit.puts f k) - (Bit.puts f k).length) false)
            rw [← Bit.text_bits] at hval
            have hin := Bit.puts_within f hjl
            have HNx : Hid ((Bit.puts f (j + 1)).length = (Bit.puts f j).length + Bit.wd (f j).2) := Lib.hid (by simp only [Bit.puts, List.length_append, Bit.of_length])
            generalize Bit.puts f k = B at *
            generalize (Bit.puts f j).length = x at *
            generalize (f j).1 = kd at *
            generalize (f j).2 = nn at *
            obtain ⟨v, rfl, HV⟩ := u64_nat kd wf0
            clear wf0 wf1
            have hwd := wd_eq nn
            have hww := Bit.wd_wd nn
            have hwl := Bit.wd_le nn
            generalize Bit.wd nn = m at *
            have hvm : Bit.val (((Bit.bits (Bit.text B)).drop x).take (Bit.wd ((m : Nat) : Int))) = v % 2 ^ m := by rw [hww, hval, Bit.val_of]; rfl
            go_wp2_with fail
            refine (Get_yes r (Bit.text B) (by omega) x ((m : Nat) : Int) _ HR.out.rd (by rw [hww]; omega)).mono ?_; rintro e w5 ⟨he, hr5, hf5⟩
            rw [hvm] at he
            rw [hww] at hr5
            have HR5 := Lib.hid (HR.out.get hr5 hf5); clear hr5 hf5 hvm hval
            obtain ⟨d0, d1⟩ := HM.out w5 HR5.out.bel
            rcases Nat.lt_or_ge m 64 with h64 | h64
            · subst he
              have hq1 := wrap_two m h64
              have hq2 : ¬ ((2 : Int) ^ m = 0) := by have := Int.pow_pos (n := (2 : Int)) (m := m) (by decide); omega
              have hq3 : ((m : Nat) : Int) < 64 := by omega
              go_wp2_with fail
              go_roundw
              case rel => exact ⟨j + 1, by omega, by go_num, by rw [HNx.out]; exact HR5.out⟩
              case measure => simp [intOf]; omega
            · obtain rfl : m = 64 := by omega
              have hv0 : ((v % 2 ^ 64 : Nat) : Int) = (v : Int) := by have := HV.out; omega
              rw [hv0] at he; subst he
              go_wp2_with fail
              go_roundw
              case rel => exact ⟨j + 1, by omega, by go_num, by rw [HNx.out]; exact HR5.out⟩
              case measure => simp [intOf]; omega
          · obtain rfl : j = k := by omega
            go_wp2_with fail
            refine (Clean_end _ (by omega) _ r HR.out.rd).mono ?_; rintro e w6 ⟨rfl, hb6⟩
            have HR6 := Lib.hid (HR.out.later hb6); clear hb6
            go_wp2_with fail
            refine (Left_any r _ (by omega) _ (by omega) _ HR6.out.rd).mono ?_; rintro e w7 ⟨rfl, hd7⟩
            have HR7 := Lib.hid (HR6.out.drewOf hd7); clear hd7
            go_wp2_with fail
            refine (Bytes_any _ HR7.out.wr).mono ?_; rintro e wx ⟨rfl, rfl⟩
            go_wp2_with fail
            refine (Len_any _ HR7.out.wr).mono ?_; rintro e wx ⟨rfl, rfl⟩
            go_wp2_with fail
            go_ret
            refine ⟨?_, HR7.out.bel⟩
            have hn : (Bit.puts f j).length ≤ 8 * (((Bit.puts f j).length + 7) / 8) := by omega
            simp
            omega
  · have hd1 : decide ((60 : Int) < (len : Int)) = true := by simp; omega
    go_enter Tryd.func6, Tryd.ntmps6
    go_wp2_with fail
    refine (works_any _ hT).mono ?_; rintro e w1 ⟨rfl, hb1⟩
    have HB1 := Lib.hid hb1; clear hb1 hT
    go_wp2_with fail
    refine (NewWriter_any _).mono ?_; rintro e w2 ⟨rfl, hw2⟩
    have hb2 : Below w.heap.size w w2 := by rw [hw2]; exact HB1.out.alloc HB1.out.size _
    have HB2 := Lib.hid hb2; clear hb2 hw2
    go_wp2_with fail
    go_ret
    exact ⟨rfl, HB2.out⟩
theorem bitsBack_walk {H : Type} {enc : TypeId × Value → H} {r : Reach} {b0 : Nat} {v : Value} {d : DataW H} {p : List MemPlace} (w : World) (hT : TabOk w)
    (hv : Value.okWide Tryd.prog w r b0 22 v) (h : DataW.Trod enc Tryd.prog w 0 (fun _ => true) true 22 v d p) :
    Calls Tryd.prog 6 #[v] w fun e w' => e = .returned (.bool true) ∧ Below w.heap.size w w' := by
  obtain ⟨A, n, c, f, rfl, hn, hA⟩ := open_puts hv h
  exact bitsBack_walk0 w hT A n c f hn hA
end Go.Proofs.YtfndlidedlbncaaDoor
