/-
  The walk of ValueBack.
-/
import Derived.Test.YtahdfcflgicpkaaDoorVaT
namespace Go.Proofs.YtahdfcflgicpkaaDoor
open Go.RowKit

set_option maxRecDepth 100000 in
set_option maxHeartbeats 1000000 in
theorem valueBack_walk0 (w : World) (hT : TabOk w) (A : Option Addr) (len cap : Nat) (f : Nat → Nat) (_hlen : len ≤ maxLen) (hA : IntRow w A len .u64 (fun i => (f i : Int))) (b : ByteArray) (_hb : b.size ≤ maxLen) (n : Int) :
    Calls Tryd.prog 4 #[.slice A len cap, .string b, .int .i64 n] w fun e w' => e = .returned (.bool true) ∧ Below w.heap.size w w' := by
  have HT := Lib.hid hT; have HA := Lib.hid hA; clear hT hA
  by_cases hl : len ≤ 60
  · have d0 : decide ((60 : Int) < (len : Int)) = false := by simp; omega
    by_cases hb : b.size ≤ 60
    · have d1 : decide ((60 : Int) < (b.size : Int)) = false := by simp; omega
      have hrd := Va.read_bits f len (by omega) (fun i hi => by have := (HA.out.u64_lt hi).2; omega)
      have HRDB := Lib.hid hrd; clear hrd
      go_enter Tryd.func4, Tryd.ntmps4
      go_wp2_with fail
      refine (works_any _ HT.out).mono ?_; rintro e w1 ⟨rfl, hb1⟩
      have HB1 := Lib.hid hb1; clear hb1
      have HT1 : Hid (TabOk w1) := Lib.hid (HT.out.later HB1.out)
      have HA1 := Lib.hid (HA.out.later HB1.out)
      go_wp2_with fail
      refine (vAll_any w1 HT1.out A len cap f (by omega) HA1.out).mono ?_; rintro e w2 ⟨rfl, hb2⟩
      have HB2 := Lib.hid (HB1.out.trans (hb2.mono HB1.out.size)); clear hb2
      have HT2 : Hid (TabOk w2) := Lib.hid (HT.out.later HB2.out)
      have hsz : (Bit.text (Va.bits f len)).size ≤ 137438953472 := by
        rw [Bit.text_size]; have := Va.bits_length f len; omega
      go_wp2_with fail
      refine (vRead_any _ hsz (len : Int) w2 HT2.out).mono ?_; rintro e w3 ⟨A3, cap3, l3, o3, rfl, hb3, hrow, ⟨rfl, hr⟩ | ⟨rfl, rfl, hr⟩⟩
      · rw [HRDB.out] at hr
        obtain rfl := Option.some.inj hr
        have hlz : ((List.range len).map f).length = len := by simp
        have hget : ∀ i, i < len → ((List.range len).map f).getD i 0 = f i := fun i hi => by simp [List.getD, hi]
        rw [hlz] at hrow ⊢
        have HB3 := Lib.hid (HB2.out.trans (hb3.mono HB2.out.size)); have HR3 := Lib.hid hrow; clear hb3 hrow hr
        have HT3 : Hid (TabOk w3) := Lib.hid (HT.out.later HB3.out)
        have HA3 := Lib.hid (HA.out.later HB3.out)
        have hcall := rvSame_any w3 A3 A len cap3 len cap _ _ (by omega) (by omega) HR3.out HA3.out true ⟨fun _ => ⟨rfl, fun i hi => congrArg Int.ofNat (hget i hi)⟩, fun _ => rfl⟩
        have HCALL := Lib.hid hcall
        clear hcall hget hlz hsz
        go_wp2_with fail
        refine HCALL.out.mono ?_
        rintro e w4 ⟨rfl, hd⟩
        have HB4 := Lib.hid (HB3.out.grown (hd.grown none) HB3.out.size (fun r e => by cases e)); clear hd HCALL
        have HT4 : Hid (TabOk w4) := Lib.hid (HT.out.later HB4.out)
        go_wp2_with fail
        refine (vRead_any b (by omega) n w4 HT4.out).mono ?_; rintro e w5 ⟨A5, cap5, l5, o5, rfl, hb5, hrow, ⟨rfl, hr⟩ | ⟨rfl, rfl, hr⟩⟩
        · obtain ⟨q1, q2, q3, q4⟩ := Va.read_some hr
          have HB5 := Lib.hid (HB4.out.trans (hb5.mono HB4.out.size)); have HR5 := Lib.hid hrow; clear hb5 hrow hr q4
          have HT5 : Hid (TabOk w5) := Lib.hid (HT.out.later HB5.out)
          generalize l5.length = m at *
          go_wp2_with fail
          refine (vAll_any w5 HT5.out A5 m cap5 _ (by omega) HR5.out).mono ?_; rintro e w6 ⟨rfl, hb6⟩
          have HB6 := Lib.hid (HB5.out.trans (hb6.mono HB5.out.size)); clear hb6
          rw [q3]
          go_wp2_with fail
          go_ret
          exact ⟨by simp, HB6.out⟩
        · have HB5 := Lib.hid (HB4.out.trans (hb5.mono HB4.out.size)); clear hb5 hrow hr
          go_wp2_with fail
          go_ret
          exact ⟨by simp, HB5.out⟩
      · rw [HRDB.out] at hr; cases hr
    · have d1 : decide ((60 : Int) < (b.size : Int)) = true := by simp; omega
      go_enter Tryd.func4, Tryd.ntmps4
      go_wp2_with fail
      refine (works_any _ HT.out).mono ?_; rintro e w1 ⟨rfl, hb1⟩
      have HB1 := Lib.hid hb1; clear hb1
      go_wp2_with fail
      go_ret
      exact ⟨rfl, HB1.out⟩
  · have d0 : decide ((60 : Int) < (len : Int)) = true := by simp; omega
    go_enter Tryd.func4, Tryd.ntmps4
    go_wp2_with fail
    refine (works_any _ HT.out).mono ?_; rintro e w1 ⟨rfl, hb1⟩
    have HB1 := Lib.hid hb1; clear hb1
    go_wp2_with fail
    go_ret
    exact ⟨rfl, HB1.out⟩
theorem open_nats {H : Type} {enc : TypeId × Value → H} {r : Reach} {b0 : Nat} {v : Value} {d : DataW H} {p : List MemPlace} {w : World}
    (hv : Value.okWide Tryd.prog w r b0 22 v) (h : DataW.Trod enc Tryd.prog w 0 (fun _ => true) true 22 v d p) :
    ∃ (A : Option Addr) (n c : Nat) (f : Nat → Nat), v = .slice A n c ∧ n ≤ maxLen ∧ IntRow w A n .u64 (fun i => (f i : Int)) := by
  obtain ⟨A, n, c, f, rfl, hn, hA⟩ := open_ints_row (k := .u64) Tryd.underlying22 Tryd.underlying29 (by kernel_rfl) hv h
  refine ⟨A, n, c, fun i => (f i).toNat, rfl, hn, fun hpos => ?_⟩
  have hlt := fun i hi => hA.u64_lt (i := i) hi
  obtain ⟨ad, e, h1, h2⟩ := hA hpos
  refine ⟨ad, e, h1, fun i hi => ?_⟩
  have e2 : (((f i).toNat : Nat) : Int) = f i := Int.toNat_of_nonneg (hlt i hi).1
  show w.cell? (ad.add i) = some (.int .u64 (((f i).toNat : Nat) : Int)) ∧ (Lit.int .u64 (((f i).toNat : Nat) : Int)).wf = true
  rw [e2]; exact h2 i hi
theorem valueBack_walk {H : Type} {enc : TypeId × Value → H} {r : Reach} {b0 : Nat} {v : Value} {d : DataW H} {p : List MemPlace} (w : World) (hT : TabOk w)
    (hv : Value.okWide Tryd.prog w r b0 22 v) (h : DataW.Trod enc Tryd.prog w 0 (fun _ => true) true 22 v d p) (b : ByteArray) (hb : b.size ≤ maxLen) (n : Int) (_hn : (Lit.int .i64 n).wf = true) :
    Calls Tryd.prog 4 #[v, .string b, .int .i64 n] w fun e w' => e = .returned (.bool true) ∧ Below w.heap.size w w' := by
  obtain ⟨A, m, c, f, rfl, hm, hA⟩ := open_nats hv h
  exact valueBack_walk0 w hT A m c f hm hA b hb n
end Go.Proofs.YtahdfcflgicpkaaDoor
