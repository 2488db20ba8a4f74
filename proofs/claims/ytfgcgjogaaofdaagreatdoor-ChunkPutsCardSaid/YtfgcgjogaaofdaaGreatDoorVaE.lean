/-
  What readWay and readBits of package value come to.
-/
import Derived.Test.YtfgcgjogaaofdaaGreatDoorVaI
namespace Go.Proofs.YtfgcgjogaaofdaaGreatDoor
open Go.RowKit

theorem VStAt.far {W W2 : World} {g p : Nat} {s : Va.S} (h : VStAt W g s) (hf : Far W W2 (OneSet p)) (hne : g ≠ p) : VStAt W2 g s :=
  (hf.same g h.lt (fun e => hne e)).trans h
theorem TabOk.not_reader {w : World} {p x : Nat} {s : ByteArray} (h : TabOk w) (hr : RdAt w p s x) : p ≠ 1 := by
  intro h0
  subst h0
  have h1 := h 0 (by decide)
  have h2 := cell_of_row _ _ 0 _ _ _ hr
  rw [h1] at h2
  simp at h2
theorem TabOk.far {w W : World} {p : Nat} (h : TabOk w) (hf : Far w W (OneSet p)) (hp : p ≠ 1) : TabOk W := fun j hj => by
  exact (World.cell?_of_block (w := w) (a := ⟨1, j, none⟩) (hf.same 1 (by have := h.pos; omega) (fun e => hp (by have : 1 = p := e; omega)))).trans (h j hj)
set_option maxRecDepth 100000 in
set_option maxHeartbeats 1000000 in
theorem readBits_yes (p : Nat) (b : ByteArray) (hb : b.size ≤ 137438953472) (q ld n : Nat) (hn : n ≤ 64) (hld : ld + n ≤ 64) (hn0 : 0 < n) (hq : q + n ≤ 8 * b.size) (w : World) (hr : RdAt w p b q) :
    Calls Tryz.prog 101 #[.pointer (some ⟨p, 0, none⟩), .int .i64 ld, .int .i64 n] w fun e w' => e = .returned (.tuple #[.int .u64 ((Bit.val (((Bit.bits b).drop q).take n) * 2 ^ (64 - ld - n) : Nat) : Int), .bool true]) ∧ RdAt w' p b (q + n) ∧ Far w w' (OneSet p) := by
  have hwd : Bit.wd ((n : Nat) : Int) = n := by unfold Bit.wd; omega
  have hg := Get_yes p b hb q (n : Int) w hr (by rw [hwd]; exact hq)
  rw [hwd] at hg
  have hvl := Bit.val_take_lt ((Bit.bits b).drop q) n
  have hml := Va.mul_lt (b := 64 - ld - n) hvl (by omega)
  generalize Bit.val (((Bit.bits b).drop q).take n) = v at *
  have e1 : IntKind.i64.wrap (64 - (ld : Int)) = 64 - (ld : Int) := IntWalk.i64_in _ (by omega)
  have e2 : wrap64 (64 - (ld : Int)) = 64 - (ld : Int) := IntWalk.wrap64_in _ (by omega)
  have e3 : (64 - (ld : Int)) - (n : Int) = ((64 - ld - n : Nat) : Int) := by omega
  have hk64 : 64 - ld - n < 64 := by omega
  generalize 64 - ld - n = k at *
  have e4 : IntKind.i64.wrap (k : Int) = (k : Int) := IntWalk.i64_in _ (by omega)
  have esh : IntKind.u64.wrap ((v : Int) * 2 ^ k) = ((v * 2 ^ k : Nat) : Int) := by
    have e : (v : Int) * 2 ^ k = ((v * 2 ^ k : Nat) : Int) := by rw [Int.natCast_mul, Int.natCast_pow]; rfl
    rw [e, IntKind.wrap_u64]; omega
  have hk65 : k ≤ 64 := by omega
  generalize hd : v * 2 ^ k = d at *
  have HG := Lib.hid hg; have HD := Lib.hid hd; clear hg hvl hml hd
  go_enter Tryz.func101, Tryz.ntmps101
  go_wp2_with fail
  refine HG.out.mono ?_; rintro e w2 ⟨rfl, hr2, hf2⟩
  have HR2 := Lib.hid hr2; have HF2 := Lib.hid hf2; clear hr2 hf2
  go_wp2_with fail
  go_ret2
  exact ⟨rfl, HR2.out, HF2.out⟩
set_option maxRecDepth 100000 in
set_option maxHeartbeats 1000000 in
theorem readBits_no (p : Nat) (b : ByteArray) (hb : b.size ≤ 137438953472) (q ld n : Nat) (hn : n ≤ 64) (hld : ld + n ≤ 64) (hn0 : 0 < n) (hq0 : q ≤ 8 * b.size) (hq : 8 * b.size < q + n) (w : World) (hr : RdAt w p b q) :
    Calls Tryz.prog 101 #[.pointer (some ⟨p, 0, none⟩), .int .i64 ld, .int .i64 n] w fun e w' => e = .returned (.tuple #[.int .u64 0, .bool false]) ∧ Below w.heap.size w w' := by
  have hwd : Bit.wd ((n : Nat) : Int) = n := by unfold Bit.wd; omega
  have hg := Get_no p b hb q hq0 (n : Int) w hr (by rw [hwd]; exact hq)
  have e1 : IntKind.i64.wrap (64 - (ld : Int)) = 64 - (ld : Int) := IntWalk.i64_in _ (by omega)
  have e2 : wrap64 (64 - (ld : Int)) = 64 - (ld : Int) := IntWalk.wrap64_in _ (by omega)
  have e3 : (64 - (ld : Int)) - (n : Int) = ((64 - ld - n : Nat) : Int) := by omega
  have hk64 : 64 - ld - n < 64 := by omega
  generalize 64 - ld - n = k at *
  have e4 : IntKind.i64.wrap (k : Int) = (k : Int) := IntWalk.i64_in _ (by omega)
  have hk65 : k ≤ 64 := by omega
  have HG := Lib.hid hg; clear hg
  go_enter Tryz.func101, Tryz.ntmps101
  go_wp2_with fail
  refine HG.out.mono ?_; rintro e w2 ⟨rfl, hb2⟩
  have HB2 := Lib.hid hb2; clear hb2
  go_wp2_with fail
  go_ret2
  exact ⟨by simp, HB2.out⟩
/-- how the next value was put -/
def WayRead (s : Va.S) (b : ByteArray) (q p : Nat) (w : World) (e : Ending) (w' : World) : Prop := Far w w' (OneSet p) ∧
  ((s.n = 0 ∧ e = .returned (.tuple #[.int .i64 0, .bool true]) ∧ RdAt w' p b q) ∨
   (s.n ≠ 0 ∧ (Bit.bits b).drop q = [] ∧ e = .returned (.tuple #[.int .i64 1, .bool false]) ∧ RdAt w' p b q) ∨
   (s.n ≠ 0 ∧ (Bit.bits b).drop q = false :: (Bit.bits b).drop (q + 1) ∧ e = .returned (.tuple #[.int .i64 1, .bool true]) ∧ RdAt w' p b (q + 1) ∧ q + 1 ≤ 8 * b.size) ∨
   (s.n ≠ 0 ∧ (Bit.bits b).drop q = [true] ∧ e = .returned (.tuple #[.int .i64 2, .bool false]) ∧ RdAt w' p b (q + 1) ∧ q + 1 ≤ 8 * b.size) ∨
   (s.n ≠ 0 ∧ (Bit.bits b).drop q = true :: false :: (Bit.bits b).drop (q + 2) ∧ e = .returned (.tuple #[.int .i64 2, .bool true]) ∧ RdAt w' p b (q + 2) ∧ q + 2 ≤ 8 * b.size) ∨
   (s.n ≠ 0 ∧ (Bit.bits b).drop q = true :: true :: (Bit.bits b).drop (q + 2) ∧ e = .returned (.tuple #[.int .i64 3, .bool true]) ∧ RdAt w' p b (q + 2) ∧ q + 2 ≤ 8 * b.size))
set_option maxRecDepth 100000 in
set_option maxHeartbeats 1000000 in
theorem readWay_any (p : Nat) (b : ByteArray) (hb : b.size ≤ 137438953472) (q : Nat) (hq : q ≤ 8 * b.size) (s : Va.S) (w : World) (hr : RdAt w p b q) :
    Calls Tryz.prog 100 #[.pointer (some ⟨p, 0, none⟩), s.val] w (WayRead s b q p w) := by
  have hbl : (Bit.bits b).length = 8 * b.size := Bit.bits_length b
  have hal : Below w.heap.size w (w.alloc (.cells #[.int .i64 s.n, .int .u64 s.v, .int .i64 s.l, .int .i64 s.t] 104)) := (Below.refl _ _).alloc (Nat.le_refl _) _
  have HR1 := Lib.hid (hr.below hal); have HF1 := Lib.hid (far_of_below hal (OneSet p))
  clear hal hr
  unfold Va.S.val
  by_cases hn : s.n = 0
  · have e0 : ((s.n : Int) == 0) = true := by simp [hn]
    have HN := Lib.hid hn; clear hn
    go_enter Tryz.func100, Tryz.ntmps100
    go_wp2_with fail
    go_ret2
    exact ⟨HF1.out, .inl ⟨HN.out, rfl, HR1.out⟩⟩
  · have e0 : ((s.n : Int) == 0) = false := by simp [hn]
    have HN := Lib.hid hn; clear hn
    go_enter Tryz.func100, Tryz.ntmps100
    go_wp2_with fail
    rcases Nat.lt_or_ge q (8 * b.size) with hlt | hge
    · obtain ⟨b0, hb0, hv0⟩ := Bit.drop_get (Bit.bits b) q (by omega)
      have HB0 := Lib.hid hb0; clear hb0
      refine (Get_yes p b hb q 1 _ HR1.out (by show q + 1 ≤ _; omega)).mono ?_; rintro e w2 ⟨he, hr2, hf2⟩
      rw [show Bit.wd 1 = 1 from rfl, hv0] at he
      have HR2 : Hid (RdAt w2 p b (q + 1)) := Lib.hid hr2; have HF2 := Lib.hid (HF1.out.more hf2); clear hr2 hf2 hv0
      cases b0
      · subst he
        have e1 : (((Bool.toNat false : Nat) : Int) == 0) = true := rfl
        go_wp2_with fail
        go_ret2
        exact ⟨HF2.out, .inr (.inr (.inl ⟨HN.out, HB0.out, rfl, HR2.out, by omega⟩))⟩
      · subst he
        have e1 : (((Bool.toNat true : Nat) : Int) == 0) = false := rfl
        go_wp2_with fail
        rcases Nat.lt_or_ge (q + 1) (8 * b.size) with hlt1 | hge1
        · obtain ⟨b1, hb1, hv1⟩ := Bit.drop_get (Bit.bits b) (q + 1) (by omega)
          have HB1 := Lib.hid hb1; clear hb1
          refine (Get_yes p b hb (q + 1) 1 _ HR2.out (by show q + 1 + 1 ≤ _; omega)).mono ?_; rintro e w3 ⟨he, hr3, hf3⟩
          rw [show Bit.wd 1 = 1 from rfl, hv1] at he
          have HR3 : Hid (RdAt w3 p b (q + 2)) := Lib.hid hr3; have HF3 := Lib.hid (HF2.out.more hf3); clear hr3 hf3 hv1 e1
          cases b1
          · subst he
            have e1 : (((Bool.toNat false : Nat) : Int) == 0) = true := rfl
            go_wp2_with fail
            go_ret2
            exact ⟨HF3.out, .inr (.inr (.inr (.inr (.inl ⟨HN.out, by rw [HB0.out, HB1.out], rfl, HR3.out, by omega⟩))))⟩
          · subst he
            have e1 : (((Bool.toNat true : Nat) : Int) == 0) = false := rfl
            go_wp2_with fail
            go_ret2
            exact ⟨HF3.out, .inr (.inr (.inr (.inr (.inr ⟨HN.out, by rw [HB0.out, HB1.out], rfl, HR3.out, by omega⟩))))⟩
        · refine (Get_no p b hb (q + 1) (by omega) 1 _ HR2.out (by show _ < q + 1 + 1; omega)).mono ?_; rintro e w3 ⟨rfl, hb3⟩
          have HR3 := Lib.hid (HR2.out.below hb3); have HF3 := Lib.hid (HF2.out.more (far_of_below hb3 _)); clear hb3
          go_wp2_with fail
          go_ret2
          exact ⟨HF3.out, .inr (.inr (.inr (.inl ⟨HN.out, by rw [HB0.out, List.drop_of_length_le (by omega)], rfl, HR3.out, by omega⟩)))⟩
    · refine (Get_no p b hb q hq 1 _ HR1.out (by show _ < q + 1; omega)).mono ?_; rintro e w2 ⟨rfl, hb2⟩
      have HR2 := Lib.hid (HR1.out.below hb2); have HF2 := Lib.hid (HF1.out.more (far_of_below hb2 _)); clear hb2
      go_wp2_with fail
      go_ret2
      exact ⟨HF2.out, .inr (.inl ⟨HN.out, List.drop_of_length_le (by omega), rfl, HR2.out⟩)⟩
end Go.Proofs.YtfgcgjogaaofdaaGreatDoor
