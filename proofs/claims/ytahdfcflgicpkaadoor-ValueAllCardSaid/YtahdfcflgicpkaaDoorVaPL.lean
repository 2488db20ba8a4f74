/-
  The walk of ValueAll.
-/
import Derived.Test.YtahdfcflgicpkaaDoorVaPE
import Derived.Test.YtahdfcflgicpkaaDoorVaPD
import Derived.Test.YtahdfcflgicpkaaDoorVaU
namespace Go.Proofs.YtahdfcflgicpkaaDoor
open Go.RowKit

set_option maxRecDepth 100000 in
set_option maxHeartbeats 1000000 in
theorem valueAll_walk0 (w : World) (hT : TabOk w) (A : Option Addr) (len cap : Nat) (f : Nat → Nat) (_hlen : len ≤ maxLen) (hA : IntRow w A len .u64 (fun i => (f i : Int))) (b : ByteArray) (_hb : b.size ≤ maxLen) (n : Int) :
    Calls Tryd.prog 3 #[.slice A len cap, .string b, .int .i64 n] w fun e w' => e = .returned (.bool true) ∧ Below w.heap.size w w' := by
  have HT := Lib.hid hT; have HA := Lib.hid hA; clear hT hA
  by_cases hl : len ≤ 60
  · have d0 : decide ((60 : Int) < (len : Int)) = false := by simp; omega
    by_cases hb : b.size ≤ 60
    · have d1 : decide ((60 : Int) < (b.size : Int)) = false := by simp; omega
      go_enter Tryd.func3, Tryd.ntmps3
      go_wp2_with fail
      refine (works_any _ HT.out).mono ?_; rintro e w1 ⟨rfl, hb1⟩
      have HB1 := Lib.hid hb1; clear hb1
      have HT1 : Hid (TabOk w1) := Lib.hid (HT.out.later HB1.out)
      go_wp2_with fail
      refine (vRead_any b (by omega) n w1 HT1.out).mono ?_; rintro e w2 ⟨A2, cap2, l, o, rfl, hb2, hrow, hr⟩
      have HB2 := Lib.hid (HB1.out.trans (hb2.mono HB1.out.size)); have HR2 := Lib.hid hrow; have HRD := Lib.hid hr; clear hb2 hrow hr
      go_wp2_with fail
      refine (rVRead_any b hb n w2).mono ?_; rintro e w3 ⟨A3, cap3, l3, o3, rfl, hb3, hrow, hr⟩
      have hsame : l3 = l ∧ o3 = o := by
        rcases HRD.out with ⟨rfl, h1⟩ | ⟨rfl, rfl, h1⟩ <;> rcases hr with ⟨rfl, h2⟩ | ⟨rfl, rfl, h2⟩
        · rw [h1] at h2; exact ⟨(Option.some.inj h2).symm, rfl⟩
        · rw [h1] at h2; cases h2
        · rw [h1] at h2; cases h2
        · exact ⟨rfl, rfl⟩
      obtain ⟨rfl, rfl⟩ := hsame
      have hll : l3.length ≤ 480 := by
        rcases hr with ⟨rfl, h2⟩ | ⟨rfl, rfl, h2⟩
        · have := (Va.read_some h2).2.1; omega
        · simp
      have HB3 := Lib.hid (HB2.out.trans (hb3.mono HB2.out.size)); have HR3 := Lib.hid hrow; have HR23 := Lib.hid (HR2.out.later hb3); clear hb3 hrow hr
      have HT3 : Hid (TabOk w3) := Lib.hid (HT.out.later HB3.out)
      have HA3 := Lib.hid (HA.out.later HB3.out)
      generalize hlz : l3.length = m at *
      go_wp2_with fail
      refine (vAll_any w3 HT3.out A len cap f (by omega) HA3.out).mono ?_; rintro e w4 ⟨rfl, hb4⟩
      have HB4 := Lib.hid (HB3.out.trans (hb4.mono HB3.out.size)); have HA4 := Lib.hid (HA3.out.later hb4)
      have HR4 := Lib.hid (HR3.out.later hb4); have HR24 := Lib.hid (HR23.out.later hb4); clear hb4
      go_wp2_with fail
      refine (rVAll_any w4 A len cap f (by omega) HA4.out).mono ?_; rintro e w5 ⟨rfl, hb5⟩
      have HB5 := Lib.hid (HB4.out.trans (hb5.mono HB4.out.size))
      have HR5 := Lib.hid (HR4.out.later hb5); have HR25 := Lib.hid (HR24.out.later hb5); clear hb5
      go_wp2_with fail
      refine (rvSame_any w5 A2 A3 m cap2 m cap3 _ _ (by omega) (by omega) HR25.out HR5.out true ⟨fun _ => ⟨rfl, fun _ _ => rfl⟩, fun _ => rfl⟩).mono ?_
      rintro e w6 ⟨rfl, hd⟩
      have HB6 := Lib.hid (HB5.out.grown (hd.grown none) HB5.out.size (fun r e => by cases e)); clear hd
      go_wp2_with fail
      go_ret
      exact ⟨by simp, HB6.out⟩
    · have d1 : decide ((60 : Int) < (b.size : Int)) = true := by simp; omega
      go_enter Tryd.func3, Tryd.ntmps3
      go_wp2_with fail
      refine (works_any _ HT.out).mono ?_; rintro e w1 ⟨rfl, hb1⟩
      have HB1 := Lib.hid hb1; clear hb1
      go_wp2_with fail
      go_ret
      exact ⟨rfl, HB1.out⟩
  · have d0 : decide ((60 : Int) < (len : Int)) = true := by simp; omega
    go_enter Tryd.func3, Tryd.ntmps3
    go_wp2_with fail
    refine (works_any _ HT.out).mono ?_; rintro e w1 ⟨rfl, hb1⟩
    have HB1 := Lib.hid hb1; clear hb1
    go_wp2_with fail
    go_ret
    exact ⟨rfl, HB1.out⟩
theorem valueAll_walk {H : Type} {enc : TypeId × Value → H} {r : Reach} {b0 : Nat} {v : Value} {d : DataW H} {p : List MemPlace} (w : World) (hT : TabOk w)
    (hv : Value.okWide Tryd.prog w r b0 22 v) (h : DataW.Trod enc Tryd.prog w 0 (fun _ => true) true 22 v d p) (b : ByteArray) (hb : b.size ≤ maxLen) (n : Int) (_hn : (Lit.int .i64 n).wf = true) :
    Calls Tryd.prog 3 #[v, .string b, .int .i64 n] w fun e w' => e = .returned (.bool true) ∧ Below w.heap.size w w' := by
  obtain ⟨A, m, c, f, rfl, hm, hA⟩ := open_nats hv h
  exact valueAll_walk0 w hT A m c f hm hA b hb n
end Go.Proofs.YtahdfcflgicpkaaDoor
