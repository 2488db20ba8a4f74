/-
  What the functions of package match come to: Not, Sorted, Check.
-/
import Derived.Test.YtidfanmfibbiiaaMaE
import Derived.BigQuiet
namespace Go.Proofs.Ytidfanmfibbiiaa
open Go.RowKit
namespace Ma
def not (m : Mat) : Mat × Bool := if m.k = 0 then (⟨1, m.n, m.v⟩, true) else if m.k = 1 then (⟨0, m.n, m.v⟩, true) else (m, false)
/-- do times rise? -/
def rising (s : Nat → Sam) (n : Nat) : Bool := (List.range (n - 1)).all fun i => decide ((s i).t < (s (i + 1)).t)
theorem rising_no {s : Nat → Sam} {n i : Nat} (h : i + 1 < n) (hi : ¬ (s i).t < (s (i + 1)).t) : rising s n = false := by
  unfold rising
  rw [List.all_eq_false]
  exact ⟨i, List.mem_range.2 (by omega), by simpa using hi⟩
theorem rising_yes {s : Nat → Sam} {n : Nat} (h : ∀ i, i + 1 < n → (s i).t < (s (i + 1)).t) : rising s n = true := by
  unfold rising
  rw [List.all_eq_true]
  exact fun i hi => decide_eq_true (h i (by have := List.mem_range.1 hi; omega))
/-- may one be? -/
def right (m : Mat) : Bool := decide (0 ≤ m.k ∧ m.k ≤ 3) && La.okName m.n && (decide (m.v.size = 0) || (decide (m.k ≠ 3) && La.okValue m.v))
def allRight (m : Nat → Mat) (k : Nat) : Bool := decide (k ≤ 8) && (List.range k).all fun i => right (m i)
theorem allRight_no {m : Nat → Mat} {k i : Nat} (h : i < k) (hi : right (m i) = false) : allRight m k = false := by
  unfold allRight
  rw [Bool.and_eq_false_iff]; right
  rw [List.all_eq_false]
  exact ⟨i, List.mem_range.2 h, by rw [hi]; decide⟩
theorem allRight_yes {m : Nat → Mat} {k : Nat} (h8 : k ≤ 8) (h : ∀ i, i < k → right (m i) = true) : allRight m k = true := by
  unfold allRight
  rw [Bool.and_eq_true, decide_eq_true_eq]
  refine ⟨h8, ?_⟩
  rw [List.all_eq_true]
  exact fun i hi => h i (List.mem_range.1 hi)
def err (b : Bool) : Nat := if b then 0 else 1
theorem one_right (x : Lab) : La.right (fun _ => x) 1 = (La.okName x.1 && La.okValue x.2) := by
  unfold La.right La.okAt
  simp
theorem dash_ok : La.okValue ⟨#[45]⟩ = true := by decide +kernel
end Ma
set_option maxRecDepth 100000 in
set_option maxHeartbeats 1000000 in
theorem Sorted_any (A : Option Addr) (n c : Nat) (hn : n ≤ 1000000) (s : Nat → Sam) (w : World) (hA : Row 2 (sx s) w A n) :
    Calls Try.prog 48 #[.slice A n c] w fun e w' => e = .returned (.bool (Ma.rising s n)) ∧ DrewOf w w' := by
  have HA := Lib.hid hA; clear hA
  go_enter Try.func48, Try.ntmps48
  go_wp2_with fail
  go_loopw [3] (fun i wr => ∃ (k : Nat), 1 ≤ k ∧ i = .int .i64 k ∧ (∀ j, j + 1 < k → (s j).t < (s (j + 1)).t) ∧ DrewOf w wr) (fun i _ => n - (intOf i).toNat)
  case atStart => exact ⟨1, Nat.le_refl _, rfl, fun j hj => by omega, ⟨0, rfl⟩⟩
  case round =>
    obtain ⟨k, hk, rfl, hall, q, rfl⟩ := hrel
    have HE := Lib.hid hall; clear hall
    by_cases hlt : k < n
    · obtain ⟨ad, rfl, c0, -⟩ := HA.out.at_ (Below.refl _ _) hlt
      obtain ⟨ad2, e, c1, -⟩ := HA.out.at_ (Below.refl _ _) (show k - 1 < n by omega)
      cases e
      have e0 := c0 (by omega)
      have e1 := c1 (by omega)
      have x0 : sx s k 0 = .int .i64 (s k).t := rfl
      have x1 : sx s (k - 1) 0 = .int .i64 (s (k - 1)).t := rfl
      rw [x0] at e0; rw [x1] at e1
      have i1 : (k : Int) < (n : Int) := by omega
      have i0 : (0 : Int) ≤ (k : Int) := by omega
      have i2 : IntKind.i64.wrap ((k : Int) - 1) = ((k - 1 : Nat) : Int) := by rw [IntWalk.i64_in _ (by omega)]; omega
      have i3 : wrap64 ((k : Int) - 1) = ((k - 1 : Nat) : Int) := by rw [IntWalk.wrap64_in _ (by omega)]; omega
      have i4 : ((k - 1 : Nat) : Int) < (n : Int) := by omega
      have i5 : (0 : Int) ≤ ((k - 1 : Nat) : Int) := by omega
      have HK : Hid (k - 1 + 1 = k) := Lib.hid (by omega)
      clear c0 c1 x0 x1
      by_cases hf : (s (k - 1)).t < (s k).t
      · have d0 : decide ((s k).t ≤ (s (k - 1)).t) = false := by simp; omega
        have HF := Lib.hid hf; clear hf
        go_wp2_with fail
        go_quiet (fail)
        go_wp2_with fail
        go_roundw
        case rel => exact ⟨k + 1, by omega, by go_num, fun j hj => (by
          rcases Nat.lt_or_ge (j + 1) k with h1 | h1
          · exact HE.out j h1
          · obtain rfl : j = k - 1 := by omega
            rw [HK.out]; exact HF.out), _, rfl⟩
        case measure => simp [intOf]; omega
      · have d0 : decide ((s k).t ≤ (s (k - 1)).t) = true := by simp; omega
        have HR : Hid (Ma.rising s n = false) := Lib.hid (Ma.rising_no (i := k - 1) (by omega) (by rw [show k - 1 + 1 = k from by omega]; exact hf))
        clear hf
        go_wp2_with fail
        go_quiet (fail)
        go_wp2_with fail
        go_ret
        exact ⟨by rw [HR.out]; rfl, _, World.drewN_drewN _ _ _⟩
    · have HR : Hid (Ma.rising s n = true) := Lib.hid (Ma.rising_yes (fun i hi => HE.out i (by omega)))
      have i1 : ¬ (k : Int) < (n : Int) := by omega
      go_wp2_with fail
      go_ret
      exact ⟨by rw [HR.out]; rfl, _, rfl⟩
/-- what valid carries along: the matcher's box, the label -/
structure ValidIn (w : World) (m : Mat) (y : ByteArray) (W : World) : Prop where
  bel : Below w.heap.size w W
  mat : W.heap[w.heap.size]? = some (.cells #[.int .i64 m.k, .string m.n, .string m.v] 79 (0, 0))
  lab : W.heap[w.heap.size + 1]? = some (.cells #[.string m.n, .string y] 60 (0, 0))
theorem ValidIn.at_mat {w W : World} {m : Mat} {y : ByteArray} (h : ValidIn w m y W) : W.cell? ⟨w.heap.size, 0, none⟩ = some (.int .i64 m.k) ∧ W.cell? ⟨w.heap.size, 1, none⟩ = some (.string m.n) ∧ W.cell? ⟨w.heap.size, 2, none⟩ = some (.string m.v) :=
  ⟨cell_of_row _ _ 0 _ _ _ h.mat, cell_of_row _ _ 1 _ _ _ h.mat, cell_of_row _ _ 2 _ _ _ h.mat⟩
theorem ValidIn.at_lab {w W : World} {m : Mat} {y : ByteArray} (h : ValidIn w m y W) : W.cell? ⟨w.heap.size + 1, 0, none⟩ = some (.string m.n) ∧ W.cell? ⟨w.heap.size + 1, 1, none⟩ = some (.string y) :=
  ⟨cell_of_row _ _ 0 _ _ _ h.lab, cell_of_row _ _ 1 _ _ _ h.lab⟩
theorem ValidIn.free {w W : World} {m : Mat} {y : ByteArray} (h : ValidIn w m y W) : W.frozen? ⟨w.heap.size + 1, 1, none⟩ = false := frozen_of_row _ _ _ _ _ h.lab
theorem ValidIn.later {w W W2 : World} {m : Mat} {y : ByteArray} (h : ValidIn w m y W) (hb : Below W.heap.size W W2) : ValidIn w m y W2 := ⟨h.bel.trans (hb.mono h.bel.size), heap_keep h.mat hb, heap_keep h.lab hb⟩
theorem ValidIn.put {w W : World} {m : Mat} {y : ByteArray} (h : ValidIn w m y W) (z : ByteArray) : ValidIn w m z (W.setCell ⟨w.heap.size + 1, 1, none⟩ (.string z)) := by
  refine ⟨h.bel.setCell (Nat.le_succ _) _, (Below.heap_setCell W ⟨w.heap.size + 1, 1, none⟩ _ _ (by show w.heap.size ≠ w.heap.size + 1; omega)).trans h.mat, ?_⟩
  have := h.lab
  simp [World.setCell, Array.getElem?_modify, this]
set_option maxRecDepth 100000 in
set_option maxHeartbeats 1000000 in
theorem valid_any (m : Mat) (hn : m.n.size ≤ maxLen) (hv : m.v.size ≤ maxLen) (w : World) :
    Calls Try.prog 70 #[m.val] w fun e w' => e = .returned (.bool (Ma.right m)) ∧ Below w.heap.size w w' := by
  obtain ⟨mk, mn, mv⟩ := m
  simp only at hn hv
  unfold Mat.val
  have hB1 : Below w.heap.size w (w.alloc (.cells #[.int .i64 mk, .string mn, .string mv] 79)) := (Below.refl _ _).alloc (Nat.le_refl _) _
  have hr : Ma.right ⟨mk, mn, mv⟩ = (decide (0 ≤ mk ∧ mk ≤ 3) && La.okName mn && (decide (mv.size = 0) || (decide (mk ≠ 3) && La.okValue mv))) := rfl
  by_cases hk : mk < 0 ∨ 3 < mk
  · have HR : Hid (Ma.right ⟨mk, mn, mv⟩ = false) := Lib.hid (by rw [hr, decide_eq_false (by omega)]; rfl)
    have HB1 := Lib.hid hB1
    clear hr hB1
    by_cases h0 : mk < 0
    · have d0 : decide (mk < 0) = true := decide_eq_true h0
      clear hk
      go_enter Try.func70, Try.ntmps70
      go_wp2_with fail
      go_ret
      exact ⟨by rw [HR.out]; rfl, HB1.out⟩
    · have d0 : decide (mk < 0) = false := decide_eq_false h0
      have d1 : decide (3 < mk) = true := decide_eq_true (by omega)
      clear hk
      go_enter Try.func70, Try.ntmps70
      go_wp2_with fail
      go_ret
      exact ⟨by rw [HR.out]; rfl, HB1.out⟩
  have d0 : decide (mk < 0) = false := decide_eq_false (by omega)
  have d1 : decide (3 < mk) = false := decide_eq_false (by omega)
  have hem := La.isEmpty_eq mv
  -- the value that is looked at
  obtain ⟨u, hu⟩ : ∃ u : ByteArray, u = if mv.size = 0 then ⟨#[45]⟩ else mv := ⟨_, rfl⟩
  have hus : u.size ≤ maxLen := by
    rw [hu]; split
    · decide
    · exact hv
  have hck := fun (g : Nat) (W : World) (hW : LabRow W (some ⟨g, 0, none⟩) 1 (fun _ => (mn, u))) => Check_any (some ⟨g, 0, none⟩) 1 1 (by unfold maxLen; omega) (fun _ => (mn, u)) (fun i hi => ⟨hn, hus⟩) W hW
  have hor := Ma.one_right (mn, u)
  simp only at hor
  have hrr : Ma.right ⟨mk, mn, mv⟩ = (La.right (fun _ => (mn, u)) 1 && (decide (mk ≠ 3) || decide (mv.size = 0))) := by
    rw [hr, hor, hu, decide_eq_true (show 0 ≤ mk ∧ mk ≤ 3 by omega)]
    by_cases hz : mv.size = 0
    · simp [hz, Ma.dash_ok]
    · simp only [hz, decide_false, Bool.false_or, Bool.or_false, if_false, Bool.true_and]
      cases La.okName mn <;> cases decide (mk ≠ 3) <;> cases La.okValue mv <;> rfl
  generalize hrb : La.right (fun _ => (mn, u)) 1 = rb at *
  have HRR := Lib.hid hrr; have HCK := Lib.hid hck; have HB1 := Lib.hid hB1; have HU := Lib.hid hu
  clear hr hck hor hrb hrr hB1 hus hu
  have hrow : ∀ W : World, LabRow (W.alloc (.cells #[.string mn, .string u] 60)) (some ⟨W.heap.size, 0, none⟩) 1 (fun _ => (mn, u)) := fun W _ => by
    refine ⟨⟨W.heap.size, 0, none⟩, rfl, by simp, fun i hi => ?_⟩
    obtain rfl : i = 0 := by omega
    have := cells_new W [.string mn, .string u] 60
    exact ⟨this 0 _ rfl, this 1 _ rfl⟩
  have HROW := Lib.hid hrow; clear hrow
  have h2 := f_two_heap w (.cells #[.int .i64 mk, .string mn, .string mv] 79) (.cells #[.string mn, .string mv] 60)
  obtain ⟨h20, h21, z2, hk2, hg2⟩ := h2
  have hv2 : ValidIn w ⟨mk, mn, mv⟩ mv ((w.alloc (.cells #[.int .i64 mk, .string mn, .string mv] 79)).alloc (.cells #[.string mn, .string mv] 60)) := ⟨(Below.refl _ _).grown hg2 (Nat.le_refl _) (fun r e => by cases e), h20, h21⟩
  have HV2 := Lib.hid hv2
  clear h20 h21 z2 hk2 hg2 hv2 hn hv
  have HNO : Hid (rb = false → Ma.right ⟨mk, mn, mv⟩ = false) := Lib.hid (fun h => by rw [HRR.out, h]; rfl)
  have HNE : Hid (rb = true → mk ≠ 3 → Ma.right ⟨mk, mn, mv⟩ = true) := Lib.hid (fun h h3 => by rw [HRR.out, h, decide_eq_true h3]; rfl)
  have HEQ : Hid (rb = true → mk = 3 → Ma.right ⟨mk, mn, mv⟩ = decide (mv.size = 0)) := Lib.hid (fun h h3 => by rw [HRR.out, h]; simp [h3])
  clear HRR
  by_cases hz : mv.size = 0
  · have he : mv.toList.isEmpty = true := by rw [hem]; simpa using hz
    have hu2 : u = ⟨#[45]⟩ := by rw [HU.out, if_pos hz]
    have HZ : Hid (decide (mv.size = 0) = true) := Lib.hid (by simpa using hz)
    subst hu2
    clear hem hz HU hk
    go_enter Try.func70, Try.ntmps70
    go_upto_region 4 with fail
    generalize (w.alloc (.cells #[.int .i64 mk, .string mn, .string mv] 79)).alloc (.cells #[.string mn, .string mv] 60) = w2 at *
    obtain ⟨m0, m1, m2⟩ := HV2.out.at_mat
    obtain ⟨l0, l1⟩ := HV2.out.at_lab
    simp only at m0 m1 m2 l0 l1
    have f1 := HV2.out.free
    have HV3 := Lib.hid (HV2.out.put ⟨#[45]⟩)
    clear HV2
    go_upto_region 6 with fail
    generalize w2.setCell ⟨w.heap.size + 1, 1, none⟩ (.string ⟨#[45]⟩) = w3 at *
    clear m0 m1 m2 l0 l1 f1
    obtain ⟨m0, m1, m2⟩ := HV3.out.at_mat
    obtain ⟨l0, l1⟩ := HV3.out.at_lab
    simp only at m0 m1 m2 l0 l1
    have HV4 := Lib.hid (HV3.out.later ((Below.refl _ _).alloc (Nat.le_refl _) (.cells #[.string mn, .string ⟨#[45]⟩] 60)))
    have HC := Lib.hid (HCK.out w3.heap.size _ (HROW.out w3))
    go_wp2_with fail
    refine HC.out.mono ?_; rintro e w5 ⟨rfl, hb5⟩
    have HV5 := Lib.hid (HV4.out.later hb5)
    clear hb5 HV3 HV4 HC m0 m1 m2 l0 l1
    obtain ⟨m0, m1, m2⟩ := HV5.out.at_mat
    simp only at m0 m1 m2
    have q1 : (((La.err true : Nat) : Int) == 0) = true := by decide
    have q0 : (((La.err false : Nat) : Int) == 0) = false := by decide
    cases rb
    · have HR : Hid (Ma.right ⟨mk, mn, mv⟩ = false) := Lib.hid (HNO.out rfl)
      go_wp2_with fail
      go_ret
      exact ⟨by rw [HR.out]; rfl, HV5.out.bel⟩
    · by_cases k3 : mk = 3
      · have d3 : (mk != 3) = false := by simp [k3]
        have HR : Hid (Ma.right ⟨mk, mn, mv⟩ = true) := Lib.hid (by rw [HEQ.out rfl k3]; exact HZ.out)
        clear k3
        go_wp2_with fail
        go_ret
        exact ⟨by rw [HR.out]; rfl, HV5.out.bel⟩
      · have d3 : (mk != 3) = true := by simp [k3]
        have HR : Hid (Ma.right ⟨mk, mn, mv⟩ = true) := Lib.hid (HNE.out rfl k3)
        clear k3
        go_wp2_with fail
        go_ret
        exact ⟨by rw [HR.out]; rfl, HV5.out.bel⟩
  · have he : mv.toList.isEmpty = false := by rw [hem]; simpa using hz
    have hu2 : u = mv := by rw [HU.out, if_neg hz]
    have HZ : Hid (decide (mv.size = 0) = false) := Lib.hid (by simpa using hz)
    subst hu2
    clear hem hz HU hk
    go_enter Try.func70, Try.ntmps70
    go_upto_region 4 with fail
    generalize (w.alloc (.cells #[.int .i64 mk, .string mn, .string u] 79)).alloc (.cells #[.string mn, .string u] 60) = w3 at *
    have HV3 := HV2
    clear HV2
    obtain ⟨l0, l1⟩ := HV3.out.at_lab
    simp only at l0 l1
    go_upto_region 6 with fail
    clear l0 l1
    obtain ⟨m0, m1, m2⟩ := HV3.out.at_mat
    obtain ⟨l0, l1⟩ := HV3.out.at_lab
    simp only at m0 m1 m2 l0 l1
    have HV4 := Lib.hid (HV3.out.later ((Below.refl _ _).alloc (Nat.le_refl _) (.cells #[.string mn, .string u] 60)))
    have HC := Lib.hid (HCK.out w3.heap.size _ (HROW.out w3))
    go_wp2_with fail
    refine HC.out.mono ?_; rintro e w5 ⟨rfl, hb5⟩
    have HV5 := Lib.hid (HV4.out.later hb5)
    clear hb5 HV3 HV4 HC m0 m1 m2 l0 l1
    obtain ⟨m0, m1, m2⟩ := HV5.out.at_mat
    simp only at m0 m1 m2
    have q1 : (((La.err true : Nat) : Int) == 0) = true := by decide
    have q0 : (((La.err false : Nat) : Int) == 0) = false := by decide
    cases rb
    · have HR : Hid (Ma.right ⟨mk, mn, u⟩ = false) := Lib.hid (HNO.out rfl)
      go_wp2_with fail
      go_ret
      exact ⟨by rw [HR.out]; rfl, HV5.out.bel⟩
    · by_cases k3 : mk = 3
      · have d3 : (mk != 3) = false := by simp [k3]
        have HR : Hid (Ma.right ⟨mk, mn, u⟩ = false) := Lib.hid (by rw [HEQ.out rfl k3]; exact HZ.out)
        clear k3
        go_wp2_with fail
        go_ret
        exact ⟨by rw [HR.out]; rfl, HV5.out.bel⟩
      · have d3 : (mk != 3) = true := by simp [k3]
        have HR : Hid (Ma.right ⟨mk, mn, u⟩ = true) := Lib.hid (HNE.out rfl k3)
        clear k3
        go_wp2_with fail
        go_ret
        exact ⟨by rw [HR.out]; rfl, HV5.out.bel⟩
set_option maxRecDepth 100000 in
set_option maxHeartbeats 1000000 in
theorem MCheck_any (A : Option Addr) (n c : Nat) (hn : n ≤ 1000000) (m : Nat → Mat) (hs : ∀ i, i < n → (m i).n.size ≤ maxLen ∧ (m i).v.size ≤ maxLen) (w : World) (hA : Row 3 (mx m) w A n) :
    Calls Try.prog 55 #[.slice A n c] w fun e w' => e = .returned (.int .i64 ((Ma.err (Ma.allRight m n) : Nat) : Int)) ∧ Below w.heap.size w w' := by
  have HA := Lib.hid hA; have HSZ := Lib.hid hs; clear hA hs
  by_cases h8 : 8 < n
  · have d0 : decide ((8 : Int) < (n : Int)) = true := by simp; omega
    have HR : Hid (Ma.allRight m n = false) := Lib.hid (by unfold Ma.allRight; rw [decide_eq_false (by omega)]; rfl)
    go_enter Try.func55, Try.ntmps55
    go_wp2_with fail
    go_ret
    exact ⟨by rw [HR.out]; rfl, Below.refl _ _⟩
  have d0 : decide ((8 : Int) < (n : Int)) = false := by simp; omega
  go_enter Try.func55, Try.ntmps55
  go_wp2_with fail
  go_loopw [10] (fun i wr => ∃ k : Nat, k ≤ n ∧ i = .int .i64 k ∧ (∀ j, j < k → Ma.right (m j) = true) ∧ Below w.heap.size w wr) (fun i _ => n - (intOf i).toNat)
  case atStart => exact ⟨0, Nat.zero_le _, rfl, (fun j hj => by omega), Below.refl _ _⟩
  case round =>
    obtain ⟨k, hk, rfl, hall, hb⟩ := hrel
    have HE := Lib.hid hall; have HB := Lib.hid hb; clear hall hb
    by_cases hlt : k < n
    · obtain ⟨ad, rfl, c0, c1⟩ := HA.out.at_ HB.out hlt
      have e0 : wr.cell? (ad.add (k * 3)) = some (.int .i64 (m k).k) := c0 (by omega)
      have e1 : wr.cell? ⟨(ad.add (k * 3)).block, (ad.add (k * 3)).off + 1, none⟩ = some (.string (m k).n) := c1 1 (by omega) (by omega)
      have e2 : wr.cell? ⟨(ad.add (k * 3)).block, (ad.add (k * 3)).off + 2, none⟩ = some (.string (m k).v) := c1 2 (by omega) (by omega)
      have hsz := HSZ.out k hlt
      have hva := fun W => valid_any (m k) hsz.1 hsz.2 W
      rw [show (m k).val = .agg #[.int .i64 (m k).k, .string (m k).n, .string (m k).v] from rfl] at hva
      have HAL : Hid (Below wr.heap.size wr (wr.alloc (.cells #[.int .i64 (m k).k, .string (m k).n, .string (m k).v] 79))) := Lib.hid ((Below.refl _ _).alloc (Nat.le_refl _) _)
      have i1 : (k : Int) < (n : Int) := by omega
      have i0 : (0 : Int) ≤ (k : Int) := by omega
      cases hr : Ma.right (m k)
      · rw [hr] at hva
        have HR : Hid (Ma.allRight m n = false) := Lib.hid (Ma.allRight_no hlt hr)
        have HV := Lib.hid hva
        clear hva hr c0 c1 hsz
        generalize (m k).k = xk at *
        generalize (m k).n = xn at *
        generalize (m k).v = xv at *
        go_wp2_with fail
        refine (HV.out _).mono ?_; rintro e w3 ⟨rfl, hb3⟩
        have HB3 := Lib.hid (HB.out.trans ((HAL.out.trans (hb3.mono HAL.out.size)).mono HB.out.size)); clear hb3
        go_wp2_with fail
        go_ret
        exact ⟨by rw [HR.out]; rfl, HB3.out⟩
      · rw [hr] at hva
        have HR := Lib.hid hr
        have HV := Lib.hid hva
        clear hva hr c0 c1 hsz
        generalize hxk : (m k).k = xk at *
        generalize hxn : (m k).n = xn at *
        generalize hxv : (m k).v = xv at *
        clear hxk hxn hxv
        go_wp2_with fail
        refine (HV.out _).mono ?_; rintro e w3 ⟨rfl, hb3⟩
        have HB3 := Lib.hid (HB.out.trans ((HAL.out.trans (hb3.mono HAL.out.size)).mono HB.out.size)); clear hb3
        go_wp2_with fail
        go_roundw
        case rel => exact ⟨k + 1, by omega, by go_num, fun j hj => (by
          rcases Nat.lt_or_ge j k with h1 | h1
          · exact HE.out j h1
          · obtain rfl : j = k := by omega
            exact HR.out), HB3.out⟩
        case measure => simp [intOf]; omega
    · obtain rfl : k = n := by omega
      have HR : Hid (Ma.allRight m k = true) := Lib.hid (Ma.allRight_yes (by omega) HE.out)
      have i1 : ¬ (k : Int) < (k : Int) := by omega
      go_wp2_with fail
      go_ret
      exact ⟨by rw [HR.out]; rfl, HB.out⟩
end Go.Proofs.Ytidfanmfibbiiaa
