/-
  What the functions of package match come to: All, Between, Without, Not, Sorted.
-/
import Derived.Test.YtcdlkiephdghlaaMaD
import Derived.Test.YtcdlkiephdghlaaMaS
namespace Go.Proofs.Ytcdlkiephdghlaa
open Go.RowKit
/-- matchers as cells -/
def mx (m : Nat → Mat) (i j : Nat) : Value := if j = 0 then .int .i64 (m i).k else if j = 1 then .string (m i).n else .string (m i).v
theorem mx_one (m : Nat → Mat) (i j : Nat) : (mx m i j).oneCell' = true := by
  unfold mx; split
  · rfl
  · split <;> rfl
/-- a sample -/
structure Sam where
  t : Int
  v : Int
def sx (s : Nat → Sam) (i j : Nat) : Value := if j = 0 then .int .i64 (s i).t else .int .u64 (s i).v
theorem sx_one (s : Nat → Sam) (i j : Nat) : (sx s i j).oneCell' = true := by
  unfold sx; split <;> rfl
namespace Ma
def all (m : Nat → Mat) (k : Nat) (f : Nat → Lab) (n : Nat) : Bool := decide ((sel (fun i => fits (m i) f n) k).length = k)
def inT (lo hi t : Int) : Bool := decide (lo ≤ t) && decide (t ≤ hi)
end Ma
theorem AllC_any (g : Nat) (m : Mat) (A : Option Addr) (n c : Nat) (hn : n ≤ 1000000) (f : Nat → Lab) (w : World) (hA : LabRow w A n f) (hg : w.cell? ⟨g, 0, none⟩ = some (.slice A n c)) :
    Calls Try.prog 31 #[m.val, .pointer (some ⟨g, 0, none⟩)] w fun e w' => e = .returned (.bool (Ma.fits m f n)) ∧ Below w.heap.size w w' := by
  have hal : Below w.heap.size w (w.alloc (.cells #[.int .i64 m.k, .string m.n, .string m.v] 32)) := (Below.refl _ _).alloc (Nat.le_refl _) _
  have hne := cell_keep hg hal
  have hf := Fits_any m A n c hn f _ (hA.later hal)
  have hv : m.val = .agg #[.int .i64 m.k, .string m.n, .string m.v] := rfl
  rw [hv] at hf ⊢
  have HF := Lib.hid hf; have HAL := Lib.hid hal; clear hf hal hv hA
  go_enter Try.func31, Try.ntmps31
  go_wp2_with fail
  refine HF.out.mono ?_; rintro e w2 ⟨rfl, hb2⟩
  have HB2 := Lib.hid (HAL.out.trans (hb2.mono HAL.out.size)); clear hb2
  go_wp2_with fail
  go_ret
  exact ⟨rfl, HB2.out⟩
set_option maxRecDepth 100000 in
set_option maxHeartbeats 1000000 in
theorem All_any (B : Option Addr) (k cm : Nat) (hk : k ≤ 1000000) (m : Nat → Mat) (A : Option Addr) (n c : Nat) (hn : n ≤ 1000000) (f : Nat → Lab) (w : World) (hB : Row 3 (mx m) w B k) (hA : LabRow w A n f) :
    Calls Try.prog 14 #[.slice B k cm, .slice A n c] w fun e w' => e = .returned (.bool (Ma.all m k f n)) ∧ Below w.heap.size w w' := by
  have hal : Below w.heap.size w (w.alloc (.cells #[.slice A n c] 28)) := (Below.refl _ _).alloc (Nat.le_refl _) _
  have hbx : (w.alloc (.cells #[.slice A n c] 28)).cell? ⟨w.heap.size, 0, none⟩ = some (.slice A n c) := cell_of_row _ _ 0 _ _ _ (heap_alloc_new _ _)
  have hpk := pickX_any B k cm hk (mx m) (mx_one m) 31 #[.pointer (some ⟨w.heap.size, 0, none⟩)] (fun i => Ma.fits (m i) f n)
    (fun args w => enters_of Try.func31 (by kernel_rfl) rfl args w) _ (hB.later hal) (fun W hW i hi => AllC_any w.heap.size (m i) A n c hn f W ((hA.later hal).later hW) (cell_keep hbx hW))
  have HPK := Lib.hid hpk; have HAL := Lib.hid hal; clear hpk hal hbx hA hB
  go_enter Try.func14, Try.ntmps14
  go_wp2_with fail
  refine HPK.out.mono ?_
  rintro e w3 ⟨v, rfl, hown, hb3⟩
  obtain ⟨A3, c3, rfl⟩ := own_formk hown
  have HB3 := Lib.hid (HAL.out.trans (hb3.mono HAL.out.size))
  clear hown hb3
  have HALL : Hid (Ma.all m k f n = decide ((Ma.sel (fun i => Ma.fits (m i) f n) k).length = k)) := Lib.hid rfl
  generalize (Ma.sel (fun i => Ma.fits (m i) f n) k).length = q at *
  by_cases hq : q = k
  · have d1 : ((q : Int) == (k : Int)) = true := by simp [hq]
    have HR : Hid (Ma.all m k f n = true) := Lib.hid (by rw [HALL.out]; exact decide_eq_true hq)
    clear hq
    go_wp2_with fail
    go_ret
    exact ⟨by rw [HR.out]; rfl, HB3.out⟩
  · have d1 : ((q : Int) == (k : Int)) = false := by rw [beq_eq_false_iff_ne]; omega
    have HR : Hid (Ma.all m k f n = false) := Lib.hid (by rw [HALL.out]; exact decide_eq_false hq)
    clear hq
    go_wp2_with fail
    go_ret
    exact ⟨by rw [HR.out]; rfl, HB3.out⟩
theorem within_any (t v lo hi : Int) (w : World) :
    Calls Try.prog 42 #[.agg #[.int .i64 t, .int .u64 v], .int .i64 lo, .int .i64 hi] w fun e w' => e = .returned (.bool (Ma.inT lo hi t)) ∧ Below w.heap.size w w' := by
  have HB : Hid (Below w.heap.size w (w.alloc (.cells #[.int .i64 t, .int .u64 v] 52))) := Lib.hid ((Below.refl _ _).alloc (Nat.le_refl _) _)
  have hr : Ma.inT lo hi t = (decide (lo ≤ t) && decide (t ≤ hi)) := rfl
  by_cases h1 : lo ≤ t
  · have d1 : decide (lo ≤ t) = true := decide_eq_true h1
    rw [d1, Bool.true_and] at hr
    have HR := Lib.hid hr; clear hr
    go_enter Try.func42, Try.ntmps42
    go_wp2_with fail
    go_ret
    exact ⟨by rw [HR.out]; rfl, HB.out⟩
  · have d1 : decide (lo ≤ t) = false := decide_eq_false h1
    rw [d1, Bool.false_and] at hr
    have HR := Lib.hid hr; clear hr
    go_enter Try.func42, Try.ntmps42
    go_wp2_with fail
    go_ret
    exact ⟨by rw [HR.out]; rfl, HB.out⟩
theorem BetwC_any (g : Nat) (t v lo hi : Int) (w : World) (h0 : w.cell? ⟨g, 0, none⟩ = some (.int .i64 lo)) (h1 : w.cell? ⟨g + 1, 0, none⟩ = some (.int .i64 hi)) :
    Calls Try.prog 41 #[.agg #[.int .i64 t, .int .u64 v], .pointer (some ⟨g, 0, none⟩), .pointer (some ⟨g + 1, 0, none⟩)] w fun e w' => e = .returned (.bool (Ma.inT lo hi t)) ∧ Below w.heap.size w w' := by
  have hal : Below w.heap.size w (w.alloc (.cells #[.int .i64 t, .int .u64 v] 52)) := (Below.refl _ _).alloc (Nat.le_refl _) _
  have e0 := cell_keep h0 hal
  have e1 := cell_keep h1 hal
  have HAL := Lib.hid hal; clear hal
  go_enter Try.func41, Try.ntmps41
  go_wp2_with fail
  refine (within_any t v lo hi _).mono ?_; rintro e w2 ⟨rfl, hb2⟩
  have HB2 := Lib.hid (HAL.out.trans (hb2.mono HAL.out.size)); clear hb2
  go_wp2_with fail
  go_ret
  exact ⟨rfl, HB2.out⟩
theorem WithC_any (g : Nat) (t v lo hi : Int) (w : World) (h0 : w.cell? ⟨g, 0, none⟩ = some (.int .i64 lo)) (h1 : w.cell? ⟨g + 1, 0, none⟩ = some (.int .i64 hi)) :
    Calls Try.prog 43 #[.agg #[.int .i64 t, .int .u64 v], .pointer (some ⟨g, 0, none⟩), .pointer (some ⟨g + 1, 0, none⟩)] w fun e w' => e = .returned (.bool (!Ma.inT lo hi t)) ∧ Below w.heap.size w w' := by
  have hal : Below w.heap.size w (w.alloc (.cells #[.int .i64 t, .int .u64 v] 52)) := (Below.refl _ _).alloc (Nat.le_refl _) _
  have e0 := cell_keep h0 hal
  have e1 := cell_keep h1 hal
  have HAL := Lib.hid hal; clear hal
  go_enter Try.func43, Try.ntmps43
  go_wp2_with fail
  refine (within_any t v lo hi _).mono ?_; rintro e w2 ⟨rfl, hb2⟩
  have HB2 := Lib.hid (HAL.out.trans (hb2.mono HAL.out.size)); clear hb2
  go_wp2_with fail
  go_ret
  exact ⟨rfl, HB2.out⟩
theorem Between_any (A : Option Addr) (n c : Nat) (hn : n ≤ 1000000) (s : Nat → Sam) (lo hi : Int) (w : World) (hA : Row 2 (sx s) w A n) :
    Calls Try.prog 22 #[.slice A n c, .int .i64 lo, .int .i64 hi] w (Picks 52 2 (fun i => [sx s i 0, sx s i 1]) (Ma.sel (fun i => Ma.inT lo hi (s i).t) n) w) := by
  have h2 := f_two_heap w (.cells #[.int .i64 lo] 2) (.cells #[.int .i64 hi] 2)
  obtain ⟨h20, h21, z2, hk2, hg2⟩ := h2
  have hal : Below w.heap.size w ((w.alloc (.cells #[.int .i64 lo] 2)).alloc (.cells #[.int .i64 hi] 2)) := (Below.refl _ _).grown hg2 (Nat.le_refl _) (fun r e => by cases e)
  have c0 := cell_of_row _ _ 0 _ _ _ h20
  have c1 := cell_of_row _ _ 0 _ _ _ h21
  have hpk := pickS_any A n c hn (sx s) (sx_one s) 41 #[.pointer (some ⟨w.heap.size, 0, none⟩), .pointer (some ⟨w.heap.size + 1, 0, none⟩)] (fun i => Ma.inT lo hi (s i).t)
    (fun args w => enters_of Try.func41 (by kernel_rfl) rfl args w) _ (hA.later hal) (fun W hW i hi2 => BetwC_any w.heap.size (s i).t (s i).v lo hi W (cell_keep c0 hW) (cell_keep c1 hW))
  have HPK := Lib.hid hpk; have HAL := Lib.hid hal
  clear hpk hal c0 c1 h20 h21 hk2 hg2 hA z2
  go_enter Try.func22, Try.ntmps22
  go_wp2_with fail
  refine HPK.out.mono ?_
  rintro e w3 ⟨v, rfl, hown, hb3⟩
  have HB3 := Lib.hid (HAL.out.trans (hb3.mono HAL.out.size)); have HO := Lib.hid (own_from hown HAL.out.size)
  clear hown hb3
  go_wp2_with fail
  go_ret
  exact ⟨v, rfl, HO.out, HB3.out⟩
theorem Without_any (A : Option Addr) (n c : Nat) (hn : n ≤ 1000000) (s : Nat → Sam) (lo hi : Int) (w : World) (hA : Row 2 (sx s) w A n) :
    Calls Try.prog 23 #[.slice A n c, .int .i64 lo, .int .i64 hi] w (Picks 52 2 (fun i => [sx s i 0, sx s i 1]) (Ma.sel (fun i => !Ma.inT lo hi (s i).t) n) w) := by
  have h2 := f_two_heap w (.cells #[.int .i64 lo] 2) (.cells #[.int .i64 hi] 2)
  obtain ⟨h20, h21, z2, hk2, hg2⟩ := h2
  have hal : Below w.heap.size w ((w.alloc (.cells #[.int .i64 lo] 2)).alloc (.cells #[.int .i64 hi] 2)) := (Below.refl _ _).grown hg2 (Nat.le_refl _) (fun r e => by cases e)
  have c0 := cell_of_row _ _ 0 _ _ _ h20
  have c1 := cell_of_row _ _ 0 _ _ _ h21
  have hpk := pickS_any A n c hn (sx s) (sx_one s) 43 #[.pointer (some ⟨w.heap.size, 0, none⟩), .pointer (some ⟨w.heap.size + 1, 0, none⟩)] (fun i => !Ma.inT lo hi (s i).t)
    (fun args w => enters_of Try.func43 (by kernel_rfl) rfl args w) _ (hA.later hal) (fun W hW i hi2 => WithC_any w.heap.size (s i).t (s i).v lo hi W (cell_keep c0 hW) (cell_keep c1 hW))
  have HPK := Lib.hid hpk; have HAL := Lib.hid hal
  clear hpk hal c0 c1 h20 h21 hk2 hg2 hA z2
  go_enter Try.func23, Try.ntmps23
  go_wp2_with fail
  refine HPK.out.mono ?_
  rintro e w3 ⟨v, rfl, hown, hb3⟩
  have HB3 := Lib.hid (HAL.out.trans (hb3.mono HAL.out.size)); have HO := Lib.hid (own_from hown HAL.out.size)
  clear hown hb3
  go_wp2_with fail
  go_ret
  exact ⟨v, rfl, HO.out, HB3.out⟩
end Go.Proofs.Ytcdlkiephdghlaa
