import Derived.Test.YtliobahnekohmaaGreatMaC
import Derived.Test.YtliobahnekohmaaGreatMaD
/-
  What the functions of package match come to: places and pick, over api.Sample.
-/
namespace Go.Proofs.YtliobahnekohmaaGreat
open Go.RowKit Go.Shelf
attribute [local go_sem] Oper.semAt_some
end Go.Proofs.YtliobahnekohmaaGreat
/-
  What the functions of package match come to: All, Between, Without, Not, Sorted.
-/
namespace Go.Proofs.YtliobahnekohmaaGreat
open Go.RowKit
def mx (m : Nat → Mat) (i j : Nat) : Value := if j = 0 then .int .i64 (m i).k else if j = 1 then .string (m i).n else .string (m i).v
theorem mx_one (m : Nat → Mat) (i j : Nat) : (mx m i j).oneCell' = true := by
 unfold mx; split
 · rfl
 · split <;> rfl
namespace Ma
def all (m : Nat → Mat) (k : Nat) (f : Nat → Lab) (n : Nat) : Bool := decide ((sel (fun i => fits (m i) f n) k).length = k)
end Ma
theorem AllC_any (g : Nat) (m : Mat) (A : Option Addr) (n c : Nat) (hn : n ≤ 1000000) (f : Nat → Lab) (w : World) (hA : LabRow w A n f) (hg : w.cell? ⟨g, 0, none⟩ = some (.slice A n c)) :
 Calls Tryz.prog 100 #[m.val, .pointer (some ⟨g, 0, none⟩)] w fun e w' => e = .returned (.bool (Ma.fits m f n)) ∧ Below w.heap.size w w' := by
 have hal : Below w.heap.size w (w.alloc (.cells #[.int .i64 m.k, .string m.n, .string m.v] 55)) := (Below.refl _ _).alloc (Nat.le_refl _) _
 have hne := cell_keep hg hal
 have hf := Fits_any m A n c hn f _ (hA.later hal)
 have hv : m.val = .agg #[.int .i64 m.k, .string m.n, .string m.v] := rfl
 rw [hv] at hf ⊢
 have HF := Lib.hid hf; have HAL := Lib.hid hal; clear hf hal hv hA
 go_enter Tryz.func100, Tryz.ntmps100
 go_wp2_with fail
 refine HF.out.mono ?_; rintro e w2 ⟨rfl, hb2⟩
 have HB2 := Lib.hid (HAL.out.trans (hb2.mono HAL.out.size)); clear hb2
 go_wp2_with fail
 go_ret
 exact ⟨rfl, HB2.out⟩
set_option maxRecDepth 100000 in
set_option maxHeartbeats 1000000 in
theorem All_any (B : Option Addr) (k cm : Nat) (hk : k ≤ 1000000) (m : Nat → Mat) (A : Option Addr) (n c : Nat) (hn : n ≤ 1000000) (f : Nat → Lab) (w : World) (hB : Row 3 (mx m) w B k) (hA : LabRow w A n f) :
 Calls Tryz.prog 60 #[.slice B k cm, .slice A n c] w fun e w' => e = .returned (.bool (Ma.all m k f n)) ∧ Below w.heap.size w w' := by
 have hal : Below w.heap.size w (w.alloc (.cells #[.slice A n c] 57)) := (Below.refl _ _).alloc (Nat.le_refl _) _
 have hbx : (w.alloc (.cells #[.slice A n c] 57)).cell? ⟨w.heap.size, 0, none⟩ = some (.slice A n c) := cell_of_row _ _ 0 _ _ _ (heap_alloc_new _ _)
 have hpk := pickX_any B k cm hk (mx m) (mx_one m) 100 #[.pointer (some ⟨w.heap.size, 0, none⟩)] (fun i => Ma.fits (m i) f n)
  (fun args w => enters_of Tryz.func100 (by kernel_rfl) rfl args w) _ (hB.later hal) (fun W hW i hi => AllC_any w.heap.size (m i) A n c hn f W ((hA.later hal).later hW) (cell_keep hbx hW))
 have HPK := Lib.hid hpk; have HAL := Lib.hid hal; clear hpk hal hbx hA hB
 go_enter Tryz.func60, Tryz.ntmps60
 go_wp2_with fail
 refine HPK.out.mono ?_
 rintro e w3 ⟨v, rfl, hown, hb3⟩
 obtain ⟨A3, c3, rfl⟩ := own_formk hown
 have HB3 := Lib.hid (HAL.out.trans (hb3.mono HAL.out.size))
 clear hown hb3
 have HALL : Hid (Ma.all m k f n = decide ((Ma.sel (fun i => Ma.fits (m i) f n) k).length = k)) := Lib.hid rfl
 generalize (Ma.sel (fun i => Ma.fits (m i) f n) k).length = q at *
 by_cases hq : q = k
 · have d1 : ((q : Int) == (k : Int)) = true := by simp [hq]
   have HR : Hid (Ma.all m k f n = true) := Lib.hid (by rw [HALL.out]; exact decide_eq_true hq)
   clear hq
   go_wp2_with fail
   go_ret
   exact ⟨by rw [HR.out]; rfl, HB3.out⟩
 · have d1 : ((q : Int) == (k : Int)) = false := by rw [beq_eq_false_iff_ne]; omega
   have HR : Hid (Ma.all m k f n = false) := Lib.hid (by rw [HALL.out]; exact decide_eq_false hq)
   clear hq
   go_wp2_with fail
   go_ret
   exact ⟨by rw [HR.out]; rfl, HB3.out⟩
end Go.Proofs.YtliobahnekohmaaGreat
