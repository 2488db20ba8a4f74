/-
  The walks of StampAll and StampBack.
-/
import Derived.Test.YtopdhcbhhkajpaaDoorStT
namespace Go.Proofs.YtopdhcbhhkajpaaDoor
open Go.RowKit

theorem IntRow.inR {W : World} {A : Option Addr} {n : Nat} {f : Nat → Int} (h : IntRow W A n .i64 f) {i : Nat} (hi : i < n) : St.inR (f i) := by
  obtain ⟨ad, _, _, hc⟩ := h (by omega)
  have := (hc i hi).2
  unfold St.inR
  generalize f i = t at *
  simp [Lit.wf, IntKind.min, IntKind.max, IntKind.signed, IntKind.bits] at this; omega
set_option maxRecDepth 100000 in
set_option maxHeartbeats 1000000 in
theorem stampAll_walk0 (w : World) (hT : ClsOk w) (A : Option Addr) (len cap : Nat) (f : Nat → Int) (_hlen : len ≤ maxLen) (hA : IntRow w A len .i64 f) (b : ByteArray) (_hb : b.size ≤ maxLen) (n : Int) :
    Calls Tryd.prog 5 #[.slice A len cap, .string b, .int .i64 n] w fun e w' => e = .returned (.bool true) ∧ Below w.heap.size w w' := by
  have HT := Lib.hid hT; have HA := Lib.hid hA; clear hT hA
  by_cases hl : len ≤ 60
  · have d0 : decide ((60 : Int) < (len : Int)) = false := by simp; omega
    by_cases hb : b.size ≤ 60
    · have d1 : decide ((60 : Int) < (b.size : Int)) = false := by simp; omega
      go_enter Tryd.func5, Tryd.ntmps5
      go_wp2_with fail
      refine (works_any _ HT.out).mono ?_; rintro e w1 ⟨rfl, hb1⟩
      have HB1 := Lib.hid hb1; clear hb1
      have HT1 : Hid (ClsOk w1) := Lib.hid (HT.out.later HB1.out)
      go_wp2_with fail
      refine (stRead_any b (by omega) n w1 HT1.out).mono ?_; rintro e w2 ⟨A2, cap2, l, o, rfl, hb2, hrow, hr⟩
      have HB2 := Lib.hid (HB1.out.trans (hb2.mono HB1.out.size)); have HR2 := Lib.hid hrow; have HRD := Lib.hid hr; clear hb2 hrow hr
      go_wp2_with fail
      refine (rStRead_any b hb n w2).mono ?_; rintro e w3 ⟨A3, cap3, l3, o3, rfl, hb3, hrow, hr⟩
      have hsame : l3 = l ∧ o3 = o := by
        rcases HRD.out with ⟨rfl, h1⟩ | ⟨rfl, rfl, h1⟩ <;> rcases hr with ⟨rfl, h2⟩ | ⟨rfl, rfl, h2⟩
        · rw [h1] at h2; exact ⟨(Option.some.inj h2).symm, rfl⟩
        · rw [h1] at h2; cases h2
        · rw [h1] at h2; cases h2
        · exact ⟨rfl, rfl⟩
      obtain ⟨rfl, rfl⟩ := hsame
      have hll : l3.length ≤ 480 := by
        rcases hr with ⟨rfl, h2⟩ | ⟨rfl, rfl, h2⟩
        · have := (St.read_some h2).2.1; omega
        · simp
      have HB3 := Lib.hid (HB2.out.trans (hb3.mono HB2.out.size)); have HR3 := Lib.hid hrow; have HR23 := Lib.hid (HR2.out.later hb3); clear hb3 hrow hr
      have HT3 : Hid (ClsOk w3) := Lib.hid (HT.out.later HB3.out)
      have HA3 := Lib.hid (HA.out.later HB3.out)
      generalize hlz : l3.length = m at *
      go_wp2_with fail
      refine (stAll_any w3 HT3.out A len cap f (by omega) HA3.out).mono ?_; rintro e w4 ⟨rfl, hb4⟩
      have HB4 := Lib.hid (HB3.out.trans (hb4.mono HB3.out.size)); have HA4 := Lib.hid (HA3.out.later hb4)
      have HR4 := Lib.hid (HR3.out.later hb4); have HR24 := Lib.hid (HR23.out.later hb4); clear hb4
      go_wp2_with fail
      refine (rStAll_any w4 A len cap f (by omega) HA4.out).mono ?_; rintro e w5 ⟨rfl, hb5⟩
      have HB5 := Lib.hid (HB4.out.trans (hb5.mono HB4.out.size))
      have HR5 := Lib.hid (HR4.out.later hb5); have HR25 := Lib.hid (HR24.out.later hb5); clear hb5
      go_wp2_with fail
      refine (rSame_any w5 A2 A3 m cap2 m cap3 _ _ (by omega) (by omega) HR25.out HR5.out true ⟨fun _ => ⟨rfl, fun _ _ => rfl⟩, fun _ => rfl⟩).mono ?_
      rintro e w6 ⟨rfl, hd⟩
      have HB6 := Lib.hid (HB5.out.grown (hd.grown none) HB5.out.size (fun r e => by cases e)); clear hd
      go_wp2_with fail
      go_ret
      exact ⟨by simp, HB6.out⟩
    · have d1 : decide ((60 : Int) < (b.size : Int)) = true := by simp; omega
      go_enter Tryd.func5, Tryd.ntmps5
      go_wp2_with fail
      refine (works_any _ HT.out).mono ?_; rintro e w1 ⟨rfl, hb1⟩
      have HB1 := Lib.hid hb1; clear hb1
      go_wp2_with fail
      go_ret
      exact ⟨rfl, HB1.out⟩
  · have d0 : decide ((60 : Int) < (len : Int)) = true := by simp; omega
    go_enter Tryd.func5, Tryd.ntmps5
    go_wp2_with fail
    refine (works_any _ HT.out).mono ?_; rintro e w1 ⟨rfl, hb1⟩
    have HB1 := Lib.hid hb1; clear hb1
    go_wp2_with fail
    go_ret
    exact ⟨rfl, HB1.out⟩
set_option maxRecDepth 100000 in
set_option maxHeartbeats 1000000 in
theorem stampBack_walk0 (w : World) (hT : ClsOk w) (A : Option Addr) (len cap : Nat) (f : Nat → Int) (_hlen : len ≤ maxLen) (hA : IntRow w A len .i64 f) (b : ByteArray) (_hb : b.size ≤ maxLen) (n : Int) :
    Calls Tryd.prog 6 #[.slice A len cap, .string b, .int .i64 n] w fun e w' => e = .returned (.bool true) ∧ Below w.heap.size w w' := by
  have HT := Lib.hid hT; have HA := Lib.hid hA; clear hT hA
  by_cases hl : len ≤ 60
  · have d0 : decide ((60 : Int) < (len : Int)) = false := by simp; omega
    by_cases hb : b.size ≤ 60
    · have d1 : decide ((60 : Int) < (b.size : Int)) = false := by simp; omega
      have hrd := St.read_bits f len (by omega) (fun i hi => HA.out.inR hi)
      have HRDB := Lib.hid hrd; clear hrd
      go_enter Tryd.func6, Tryd.ntmps6
      go_wp2_with fail
      refine (works_any _ HT.out).mono ?_; rintro e w1 ⟨rfl, hb1⟩
      have HB1 := Lib.hid hb1; clear hb1
      have HT1 : Hid (ClsOk w1) := Lib.hid (HT.out.later HB1.out)
      have HA1 := Lib.hid (HA.out.later HB1.out)
      go_wp2_with fail
      refine (stAll_any w1 HT1.out A len cap f (by omega) HA1.out).mono ?_; rintro e w2 ⟨rfl, hb2⟩
      have HB2 := Lib.hid (HB1.out.trans (hb2.mono HB1.out.size)); clear hb2
      have HT2 : Hid (ClsOk w2) := Lib.hid (HT.out.later HB2.out)
      have hsz : (Bit.text (St.bits f len)).size ≤ 137438953472 := by
        rw [Bit.text_size]; have := St.bits_length f len; omega
      go_wp2_with fail
      refine (stRead_any _ hsz (len : Int) w2 HT2.out).mono ?_; rintro e w3 ⟨A3, cap3, l3, o3, rfl, hb3, hrow, ⟨rfl, hr⟩ | ⟨rfl, rfl, hr⟩⟩
      · rw [HRDB.out] at hr
        obtain rfl := Option.some.inj hr
        have hlz : ((List.range len).map f).length = len := by simp
        have hget : ∀ i, i < len → ((List.range len).map f).getD i 0 = f i := fun i hi => by simp [List.getD, hi]
        rw [hlz] at hrow ⊢
        have HB3 := Lib.hid (HB2.out.trans (hb3.mono HB2.out.size)); have HR3 := Lib.hid hrow; clear hb3 hrow hr
        have HT3 : Hid (ClsOk w3) := Lib.hid (HT.out.later HB3.out)
        have HA3 := Lib.hid (HA.out.later HB3.out)
        have hcall := rSame_any w3 A3 A len cap3 len cap _ _ (by omega) (by omega) HR3.out HA3.out true ⟨fun _ => ⟨rfl, hget⟩, fun _ => rfl⟩
        have HCALL := Lib.hid hcall
        clear hcall hget hlz hsz
        go_wp2_with fail
        refine HCALL.out.mono ?_
        rintro e w4 ⟨rfl, hd⟩
        have HB4 := Lib.hid (HB3.out.grown (hd.grown none) HB3.out.size (fun r e => by cases e)); clear hd HCALL
        have HT4 : Hid (ClsOk w4) := Lib.hid (HT.out.later HB4.out)
        go_wp2_with fail
        refine (stRead_any b (by omega) n w4 HT4.out).mono ?_; rintro e w5 ⟨A5, cap5, l5, o5, rfl, hb5, hrow, ⟨rfl, hr⟩ | ⟨rfl, rfl, hr⟩⟩
        · obtain ⟨q1, q2, q3, q4⟩ := St.read_some hr
          have HB5 := Lib.hid (HB4.out.trans (hb5.mono HB4.out.size)); have HR5 := Lib.hid hrow; clear hb5 hrow hr q4
          have HT5 : Hid (ClsOk w5) := Lib.hid (HT.out.later HB5.out)
          generalize l5.length = m at *
          go_wp2_with fail
          refine (stAll_any w5 HT5.out A5 m cap5 _ (by omega) HR5.out).mono ?_; rintro e w6 ⟨rfl, hb6⟩
          have HB6 := Lib.hid (HB5.out.trans (hb6.mono HB5.out.size)); clear hb6
          rw [q3]
          go_wp2_with fail
          go_ret
          exact ⟨by simp, HB6.out⟩
        · have HB5 := Lib.hid (HB4.out.trans (hb5.mono HB4.out.size)); clear hb5 hrow hr
          go_wp2_with fail
          go_ret
          exact ⟨by simp, HB5.out⟩
      · rw [HRDB.out] at hr; cases hr
    · have d1 : decide ((60 : Int) < (b.size : Int)) = true := by simp; omega
      go_enter Tryd.func6, Tryd.ntmps6
      go_wp2_with fail
      refine (works_any _ HT.out).mono ?_; rintro e w1 ⟨rfl, hb1⟩
      have HB1 := Lib.hid hb1; clear hb1
      go_wp2_with fail
      go_ret
      exact ⟨rfl, HB1.out⟩
  · have d0 : decide ((60 : Int) < (len : Int)) = true := by simp; omega
    go_enter Tryd.func6, Tryd.ntmps6
    go_wp2_with fail
    refine (works_any _ HT.out).mono ?_; rintro e w1 ⟨rfl, hb1⟩
    have HB1 := Lib.hid hb1; clear hb1
    go_wp2_with fail
    go_ret
    exact ⟨rfl, HB1.out⟩
theorem stampAll_walk {H : Type} {enc : TypeId × Value → H} {r : Reach} {b0 : Nat} {v : Value} {d : DataW H} {p : List MemPlace} (w : World) (hT : ClsOk w)
    (hv : Value.okWide Tryd.prog w r b0 47 v) (h : DataW.Trod enc Tryd.prog w 0 (fun _ => true) true 47 v d p) (b : ByteArray) (hb : b.size ≤ maxLen) (n : Int) (_hn : (Lit.int .i64 n).wf = true) :
    Calls Tryd.prog 5 #[v, .string b, .int .i64 n] w fun e w' => e = .returned (.bool true) ∧ Below w.heap.size w w' := by
  obtain ⟨A, m, c, f, rfl, hm, hA⟩ := open_ints_row (k := .i64) Tryd.underlying47 Tryd.underlying2 (by kernel_rfl) hv h
  exact stampAll_walk0 w hT A m c f hm hA b hb n
theorem stampBack_walk {H : Type} {enc : TypeId × Value → H} {r : Reach} {b0 : Nat} {v : Value} {d : DataW H} {p : List MemPlace} (w : World) (hT : ClsOk w)
    (hv : Value.okWide Tryd.prog w r b0 47 v) (h : DataW.Trod enc Tryd.prog w 0 (fun _ => true) true 47 v d p) (b : ByteArray) (hb : b.size ≤ maxLen) (n : Int) (_hn : (Lit.int .i64 n).wf = true) :
    Calls Tryd.prog 6 #[v, .string b, .int .i64 n] w fun e w' => e = .returned (.bool true) ∧ Below w.heap.size w w' := by
  obtain ⟨A, m, c, f, rfl, hm, hA⟩ := open_ints_row (k := .i64) Tryd.underlying47 Tryd.underlying2 (by kernel_rfl) hv h
  exact stampBack_walk0 w hT A m c f hm hA b hb n
end Go.Proofs.YtopdhcbhhkajpaaDoor
