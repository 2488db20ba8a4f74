/-
  Labels: what the references come to: Same, Ahead, Key.
-/
import Derived.Test.YtaillfnmaiiapaaLaR
import Derived.Test.YtaillfnmaiiapaaNumO
import Derived.Test.YtaillfnmaiiapaaRoundAny
namespace Go.Proofs.Ytaillfnmaiiapaa
open Go.RowKit
set_option maxRecDepth 100000 in
set_option maxHeartbeats 1000000 in
theorem rSame_any (A B : Option Addr) (n m c d : Nat) (hn : n ≤ maxLen) (f g : Nat → Lab) (w : World) (hA : LabRow w A n f) (hB : LabRow w B m g) :
    Calls Try.prog 29 #[.slice A n c, .slice B m d] w fun e w' => e = .returned (.bool (decide (n = m) && La.same f g n)) ∧ Below w.heap.size w w' := by
  unfold maxLen at hn
  have HA := Lib.hid hA; have HB := Lib.hid hB; clear hA hB
  by_cases hnm : n = m
  · subst hnm
    rw [decide_eq_true rfl, Bool.true_and]
    generalize hr : La.same f g n = r
    have HR := Lib.hid hr; clear hr
    go_enter Try.func29, Try.ntmps29
    go_wp2_with fail
    go_loopw [5] (fun i wr => ∃ k : Nat, k ≤ n ∧ i = .int .i64 k ∧ La.same f g k = true ∧ Below w.heap.size w wr) (fun i _ => n - (intOf i).toNat)
    case atStart => exact ⟨0, by omega, rfl, rfl, Below.refl _ _⟩
    case round =>
      obtain ⟨k, hk, rfl, hs, hb⟩ := hrel
      have HBL := Lib.hid hb; have HS := Lib.hid hs; clear hb hs
      by_cases hlt : k < n
      · obtain ⟨ad, rfl, c0, c1⟩ := HA.out.at_ HBL.out hlt
        obtain ⟨bd, rfl, e0, e1⟩ := HB.out.at_ HBL.out hlt
        have i1 : (k : Int) < (n : Int) := by omega
        have i0 : (0 : Int) ≤ (k : Int) := by omega
        generalize hfk : f k = fk at *
        generalize hgk : g k = gk at *
        obtain ⟨x, y⟩ := fk
        obtain ⟨z, u⟩ := gk
        have HF := Lib.hid hfk; have HGk := Lib.hid hgk; clear hfk hgk
        have hel := fun W => run_equal_lab W x y z u
        have heg : Try.prog.eqGuardType Try.prog.depth 54 = false := by kernel_rfl
        have hb1 := str_beq x z
        have hb2 := str_beq y u
        by_cases q1 : x = z
        · have r1 : (x.toList == z.toList) = true := by rw [hb1]; simpa using q1
          by_cases q2 : y = u
          · have r2 : (y.toList == u.toList) = true := by rw [hb2]; simpa using q2
            clear hb1 hb2
            have Q1 := Lib.hid q1; have Q2 := Lib.hid q2; clear q1 q2
            go_wp2_with fail
            go_quiet (fail)
            go_wp2_with fail
            go_roundw
            case rel =>
              refine ⟨k + 1, by omega, by go_num, ?_, below_drewN HBL.out _⟩
              unfold La.same
              rw [La.range_all_succ]
              have hs := HS.out
              unfold La.same at hs
              rw [hs, HF.out, HGk.out, Q1.out, Q2.out]
              simp
            case measure => simp [intOf]; omega
          · have r2 : (y.toList == u.toList) = false := by rw [hb2]; simpa using q2
            clear hb1 hb2
            have Q1 := Lib.hid q1; have Q2 := Lib.hid q2; clear q1 q2
            go_wp2_with fail
            go_quiet (fail)
            go_wp2_with fail
            go_ret
            refine ⟨?_, below_drewN HBL.out _⟩
            have hno : La.same f g n = false := by
              unfold La.same
              rw [List.all_eq_false]
              exact ⟨k, List.mem_range.2 hlt, by rw [HF.out, HGk.out]; have q := Q2.out; simp [q]⟩
            rw [← HR.out, hno]; rfl
        · have r1 : (x.toList == z.toList) = false := by rw [hb1]; simpa using q1
          clear hb1 hb2
          have Q1 := Lib.hid q1; clear q1
          go_wp2_with fail
          go_quiet (fail)
          go_wp2_with fail
          go_ret
          refine ⟨?_, below_drewN HBL.out _⟩
          have hno : La.same f g n = false := by
            unfold La.same
            rw [List.all_eq_false]
            exact ⟨k, List.mem_range.2 hlt, by rw [HF.out, HGk.out]; have q := Q1.out; simp [q]⟩
          rw [← HR.out, hno]; rfl
      · obtain rfl : k = n := by omega
        go_wp2_with fail
        go_ret
        refine ⟨?_, HBL.out⟩
        rw [← HR.out, HS.out]; rfl
  · rw [decide_eq_false hnm, Bool.false_and]
    have hd : ((n : Int) != (m : Int)) = true := by rw [bne_iff_ne]; omega
    clear hnm
    go_enter Try.func29, Try.ntmps29
    go_wp2_with fail
    go_ret
    exact ⟨rfl, Below.refl _ _⟩

namespace La
theorem bl_same (x : UInt8) (a b : List UInt8) : Op.bytesLess (x :: a) (x :: b) = Op.bytesLess a b := by
  have e : Op.bytesLess (x :: a) (x :: b) = (decide (x < x) || (x == x && Op.bytesLess a b)) := rfl
  rw [e]; simp
theorem bl_other {x y : UInt8} (h : x ≠ y) (a b : List UInt8) : Op.bytesLess (x :: a) (y :: b) = decide (x.toNat < y.toNat) := by
  have e : Op.bytesLess (x :: a) (y :: b) = (decide (x < y) || (x == y && Op.bytesLess a b)) := rfl
  rw [e]
  have h1 : (x == y) = false := by simpa using h
  rw [h1, Bool.false_and, Bool.or_false]
  exact decide_eq_decide.2 UInt8.lt_iff_toNat_lt
theorem data_drop (s : ByteArray) (k : Nat) (h : k < s.size) : s.data.toList.drop k = s[k] :: s.data.toList.drop (k + 1) := by
  rw [List.drop_eq_getElem_cons (by rw [← Lib.size_eq]; exact h)]; rfl
end La

theorem Only.mk_ {K : Act → World → Prop} {a : Act} {w : World} (h : K a w) : Only K .normal a w := h
theorem sizes_sum (f : Nat → Lab) (k : Nat) : La.keyB f (k + 1) = La.keyB f k ++ (Num.smallB (f k).1.size ++ (f k).1) ++ (Num.smallB (f k).2.size ++ (f k).2) := by
  apply ByteArray.ext; apply Array.toList_inj.1
  rw [Num.app_list, Num.app_list]
  simp [La.keyB, La.key, La.txt]

end Go.Proofs.Ytaillfnmaiiapaa
