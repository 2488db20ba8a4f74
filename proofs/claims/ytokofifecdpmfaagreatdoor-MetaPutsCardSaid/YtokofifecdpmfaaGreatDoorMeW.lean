/-
  What works of the law's package comes to.
-/
import Derived.Test.YtokofifecdpmfaaGreatDoorMeQ
import Derived.Test.YtokofifecdpmfaaGreatDoorMeG
namespace Go.Proofs.YtokofifecdpmfaaGreatDoor
open Go.RowKit
namespace Me
def m0 : M := ⟨2, 5, 4, [1, 3]⟩
def n7 : ByteArray := ⟨#[119, 97, 108, 45, 48, 48, 48, 48, 48, 55]⟩
theorem ex_valid : valid m0 = true := by decide +kernel
theorem ex_size : (bytes m0).size = 20 := by decide +kernel
theorem ex_got : got (bytes m0) = (m0, 0) := got_bytes m0 ex_valid
theorem ex_none : got ByteArray.empty = (zero, 9) := by
  have h : (Fr.opened ByteArray.empty amet).2.2.2 = 9 := by decide +kernel
  rw [got_open _ (by rw [h]; decide), h]
theorem ex_parse : parse n7 = (wal, 7, true) := by decide +kernel
theorem ex_parse2 : parse ⟨#[119, 97, 108, 45, 55]⟩ = (ByteArray.empty, 0, false) := by decide +kernel
theorem ex_name : nameB wal 7 = n7 := by decide +kernel
theorem ex_zero : valid zero = false := by decide +kernel
theorem ex_put : putB m0 = bytes m0 ∧ putE m0 = 0 := by unfold putB putE; rw [ex_valid]; exact ⟨rfl, rfl⟩
end Me

set_option maxRecDepth 100000 in
set_option maxHeartbeats 1000000 in
theorem works_any (w : World) (hE : Env w) :
    Calls Tryz.prog 5 #[] w fun e w' => e = .returned (.bool true) ∧ Below w.heap.size w w' := by
  have hput : ∀ W A c, Ints W A c [1, 3] → Calls Tryz.prog 6 #[.agg #[.int .i64 2, .int .i64 5, .int .i64 4, .slice A 2 c]] W fun e w' => e = .returned (.tuple #[.string (Me.bytes Me.m0), .int .i64 0]) ∧ Below W.heap.size W w' := fun W A c h => by
    have := MPut_any Me.m0 A c (by decide) W h
    rw [Me.ex_put.1, Me.ex_put.2] at this
    exact this
  have hget : ∀ W, Calls Tryz.prog 13 #[.string (Me.bytes Me.m0)] W fun e w' => ∃ A c, e = .returned (.tuple #[.agg #[.int .i64 2, .int .i64 5, .int .i64 4, .slice A 2 c], .int .i64 0]) ∧ Ints w' A c [1, 3] ∧ (∀ ad, A = some ad → W.heap.size ≤ ad.block) ∧ Below W.heap.size W w' := fun W => by
    have := MGet_any (Me.bytes Me.m0) (by rw [Me.ex_size]; omega) W
    rw [Me.ex_got] at this
    exact this
  have hget0 : ∀ W, Calls Tryz.prog 13 #[.string ⟨#[]⟩] W fun e w' => ∃ A c, e = .returned (.tuple #[.agg #[.int .i64 0, .int .i64 0, .int .i64 0, .slice A 0 c], .int .i64 9]) ∧ Ints w' A c [] ∧ (∀ ad, A = some ad → W.heap.size ≤ ad.block) ∧ Below W.heap.size W w' := fun W => by
    have := MGet_any ByteArray.empty (by simp) W
    rw [Me.ex_none] at this
    exact this
  have hp1 : ∀ W, Env W → Calls Tryz.prog 15 #[.string ⟨#[119, 97, 108, 45, 48, 48, 48, 48, 48, 55]⟩] W fun e w' => e = .returned (.tuple #[.string ⟨#[119, 97, 108]⟩, .int .i64 7, .bool true]) ∧ Below W.heap.size W w' := fun W h => by
    have := Parse_any Me.n7 (by decide) W h
    rw [Me.ex_parse] at this
    exact this
  have hp2 : ∀ W, Env W → Calls Tryz.prog 15 #[.string ⟨#[119, 97, 108, 45, 55]⟩] W fun e w' => e = .returned (.tuple #[.string ByteArray.empty, .int .i64 0, .bool false]) ∧ Below W.heap.size W w' := fun W h => by
    have := Parse_any ⟨#[119, 97, 108, 45, 55]⟩ (by decide) W h
    rw [Me.ex_parse2] at this
    exact this
  have hsame : ∀ W A c B d, Ints W A c [1, 3] → Ints W B d [1, 3] → Calls Tryz.prog 12 #[.agg #[.int .i64 2, .int .i64 5, .int .i64 4, .slice A 2 c], .agg #[.int .i64 2, .int .i64 5, .int .i64 4, .slice B 2 d]] W fun e w' => e = .returned (.bool true) ∧ Below W.heap.size W w' := fun W A c B d h1 h2 => by
    have := Same_any Me.m0 Me.m0 A B c d (by decide) W h1 h2
    rw [(Me.same_iff Me.m0 Me.m0).2 rfl] at this
    exact this
  have hval : ∀ W A c, Ints W A c [1, 3] → Calls Tryz.prog 11 #[.agg #[.int .i64 2, .int .i64 5, .int .i64 4, .slice A 2 c]] W fun e w' => e = .returned (.bool true) ∧ Below W.heap.size W w' := fun W A c h => by
    have := Valid_any Me.m0 A c (by decide) W h
    rw [Me.ex_valid] at this
    exact this
  have hval0 : ∀ W, Calls Tryz.prog 11 #[.agg #[.int .i64 0, .int .i64 0, .int .i64 0, .slice none 0 0]] W fun e w' => e = .returned (.bool false) ∧ Below W.heap.size W w' := fun W => by
    have := Valid_any Me.zero none 0 (by decide) W (Ints.zero W)
    rw [Me.ex_zero] at this
    exact this
  have hname : ∀ W, Env W → Calls Tryz.prog 16 #[.string ⟨#[119, 97, 108]⟩, .int .i64 7] W fun e w' => e = .returned (.string ⟨#[119, 97, 108, 45, 48, 48, 48, 48, 48, 55]⟩) ∧ Below W.heap.size W w' := fun W h => by
    have := Name_any Me.wal (by decide) 7 W h
    rw [Me.ex_name] at this
    exact this
  have htemp : ∀ W, Calls Tryz.prog 17 #[.string ⟨#[109, 101, 116, 97]⟩] W fun e w' => e = .returned (.string ⟨#[116, 109, 112, 45, 109, 101, 116, 97]⟩) ∧ W = w' := fun W => by
    have := Temp_any ⟨#[109, 101, 116, 97]⟩ (by decide) W
    have e : (⟨#[116, 109, 112, 45]⟩ : ByteArray) ++ ⟨#[109, 101, 116, 97]⟩ = ⟨#[116, 109, 112, 45, 109, 101, 116, 97]⟩ := by decide +kernel
    rw [e] at this
    exact this
  have hsz := Me.ex_size
  have hI2 : Ints ((w.alloc (.cells #[.int .i64 1, .int .i64 3] 3)).alloc (.cells #[.int .i64 2, .int .i64 5, .int .i64 4, .slice (some ⟨w.heap.size, 0, none⟩) 2 2] 24)) (some ⟨w.heap.size, 0, none⟩) 2 [1, 3] := by
    have h1 := own_irow (own_made w w.heap.size (Nat.le_refl _) [1, 3] (by decide))
    obtain ⟨-, A, c, e, hI⟩ := h1
    cases e
    exact hI.later ((Below.refl _ _).alloc (Nat.le_refl _) _)
  have hM2 : MetaAt (w.heap.size + 1) Me.m0 (some ⟨w.heap.size, 0, none⟩) 2 ((w.alloc (.cells #[.int .i64 1, .int .i64 3] 3)).alloc (.cells #[.int .i64 2, .int .i64 5, .int .i64 4, .slice (some ⟨w.heap.size, 0, none⟩) 2 2] 24)) := heap_alloc2_new w _ _
  have hb2 : Below w.heap.size w ((w.alloc (.cells #[.int .i64 1, .int .i64 3] 3)).alloc (.cells #[.int .i64 2, .int .i64 5, .int .i64 4, .slice (some ⟨w.heap.size, 0, none⟩) 2 2] 24)) := ((Below.refl _ _).alloc (Nat.le_refl _) _).alloc (by simp) _
  generalize Me.bytes Me.m0 = S at *
  have HPUT := Lib.hid hput; have HGET := Lib.hid hget; have HGET0 := Lib.hid hget0; have HP1 := Lib.hid hp1; have HP2 := Lib.hid hp2; have HSAME := Lib.hid hsame; have HVAL := Lib.hid hval; have HVAL0 := Lib.hid hval0; have HNAME := Lib.hid hname; have HTEMP := Lib.hid htemp; have HSZ := Lib.hid hsz
  have HI2 := Lib.hid hI2; have HM2 := Lib.hid hM2; have HB2 := Lib.hid hb2; have HE2 := Lib.hid (hE.later hb2)
  clear hput hget hget0 hp1 hp2 hsame hval hval0 hname htemp hsz hI2 hM2 hb2 hE
  go_enter Tryz.func5, Tryz.ntmps5
  go_upto_region 2 with fail
  generalize (w.alloc (.cells #[.int .i64 1, .int .i64 3] 3)).alloc (.cells #[.int .i64 2, .int .i64 5, .int .i64 4, .slice (some ⟨w.heap.size, 0, none⟩) 2 2] 24) = w2 at *
  obtain ⟨c0, c1, c2, c3⟩ : w2.cell? ⟨w.heap.size + 1, 0, none⟩ = some (.int .i64 2) ∧ w2.cell? ⟨w.heap.size + 1, 1, none⟩ = some (.int .i64 5) ∧ w2.cell? ⟨w.heap.size + 1, 2, none⟩ = some (.int .i64 4) ∧ w2.cell? ⟨w.heap.size + 1, 3, none⟩ = some (.slice (some ⟨w.heap.size, 0, none⟩) 2 2) := HM2.out.cells
  go_wp2_with fail
  refine (HPUT.out _ _ _ HI2.out).mono ?_; rintro e w3 ⟨rfl, hb3⟩
  have HB3 := Lib.hid (below_step HB2.out hb3); have HI3 := Lib.hid (HI2.out.later hb3); have HM3 := Lib.hid (HM2.out.later hb3); have HE3 := Lib.hid (HE2.out.later hb3)
  clear hb3 c0 c1 c2 c3
  go_wp2_with fail
  refine (HGET.out _).mono ?_; rintro e w4 ⟨A, c, rfl, hJ4, -, hb4⟩
  have HB4 := Lib.hid (below_step HB3.out hb4); have HI4 := Lib.hid (HI3.out.later hb4); have HM4 := Lib.hid (HM3.out.later hb4); have HE4 := Lib.hid (HE3.out.later hb4); have HJ4 := Lib.hid hJ4
  clear hb4 hJ4
  have hal : Below w4.heap.size w4 (w4.alloc (.cells #[.int .i64 2, .int .i64 5, .int .i64 4, .slice A 2 c] 24)) := (Below.refl _ _).alloc (Nat.le_refl _) _
  have HN5 : Hid (MetaAt w4.heap.size Me.m0 A c (w4.alloc (.cells #[.int .i64 2, .int .i64 5, .int .i64 4, .slice A 2 c] 24))) := Lib.hid (heap_alloc_new _ _)
  have HB5 := Lib.hid (below_step HB4.out hal); have HI5 := Lib.hid (HI4.out.later hal); have HM5 := Lib.hid (HM4.out.later hal); have HE5 := Lib.hid (HE4.out.later hal); have HJ5 := Lib.hid (HJ4.out.later hal)
  clear hal
  go_upto_region 4 with fail
  generalize w4.alloc (.cells #[.int .i64 2, .int .i64 5, .int .i64 4, .slice A 2 c] 24) = w5 at *
  generalize w4.heap.size = bn at *
  go_wp2_with fail
  refine (HP1.out _ HE5.out).mono ?_; rintro e w6 ⟨rfl, hb6⟩
  have HB6 := Lib.hid (below_step HB5.out hb6); have HI6 := Lib.hid (HI5.out.later hb6); have HM6 := Lib.hid (HM5.out.later hb6); have HE6 := Lib.hid (HE5.out.later hb6); have HJ6 := Lib.hid (HJ5.out.later hb6); have HN6 := Lib.hid (HN5.out.later hb6)
  clear hb6
  go_wp2_with fail
  refine (HP2.out _ HE6.out).mono ?_; rintro e w7 ⟨rfl, hb7⟩
  have HB7 := Lib.hid (below_step HB6.out hb7); have HI7 := Lib.hid (HI6.out.later hb7); have HM7 := Lib.hid (HM6.out.later hb7); have HE7 := Lib.hid (HE6.out.later hb7); have HJ7 := Lib.hid (HJ6.out.later hb7); have HN7 := Lib.hid (HN6.out.later hb7)
  clear hb7
  go_wp2_with fail
  refine (HGET0.out _).mono ?_; rintro e w8 ⟨A8, c8, rfl, -, -, hb8⟩
  have hal : Below w8.heap.size w8 (w8.alloc (.cells #[.int .i64 0, .int .i64 0, .int .i64 0, .slice A8 0 c8] 24)) := (Below.refl _ _).alloc (Nat.le_refl _) _
  have hb9 := hb8.trans (hal.mono hb8.size)
  have HB9 := Lib.hid (below_step HB7.out hb9); have HI9 := Lib.hid (HI7.out.later hb9); have HM9 := Lib.hid (HM7.out.later hb9); have HE9 := Lib.hid (HE7.out.later hb9); have HJ9 := Lib.hid (HJ7.out.later hb9); have HN9 := Lib.hid (HN7.out.later hb9)
  clear hb8 hal hb9
  go_upto_region 7 with fail
  generalize w8.alloc (.cells #[.int .i64 0, .int .i64 0, .int .i64 0, .slice A8 0 c8] 24) = w9 at *
  obtain ⟨c0, c1, c2, c3⟩ : w9.cell? ⟨w.heap.size + 1, 0, none⟩ = some (.int .i64 2) ∧ w9.cell? ⟨w.heap.size + 1, 1, none⟩ = some (.int .i64 5) ∧ w9.cell? ⟨w.heap.size + 1, 2, none⟩ = some (.int .i64 4) ∧ w9.cell? ⟨w.heap.size + 1, 3, none⟩ = some (.slice (some ⟨w.heap.size, 0, none⟩) 2 2) := HM9.out.cells
  obtain ⟨e0, e1, e2, e3⟩ : w9.cell? ⟨bn, 0, none⟩ = some (.int .i64 2) ∧ w9.cell? ⟨bn, 1, none⟩ = some (.int .i64 5) ∧ w9.cell? ⟨bn, 2, none⟩ = some (.int .i64 4) ∧ w9.cell? ⟨bn, 3, none⟩ = some (.slice A 2 c) := HN9.out.cells
  go_wp2_with fail
  refine (HSAME.out _ _ _ _ _ HI9.out HJ9.out).mono ?_; rintro e wa ⟨rfl, hba⟩
  have HBa := Lib.hid (below_step HB9.out hba); have HIa := Lib.hid (HI9.out.later hba); have HMa := Lib.hid (HM9.out.later hba); have HEa := Lib.hid (HE9.out.later hba)
  clear hba c0 c1 c2 c3 e0 e1 e2 e3
  obtain ⟨c0, c1, c2, c3⟩ : wa.cell? ⟨w.heap.size + 1, 0, none⟩ = some (.int .i64 2) ∧ wa.cell? ⟨w.heap.size + 1, 1, none⟩ = some (.int .i64 5) ∧ wa.cell? ⟨w.heap.size + 1, 2, none⟩ = some (.int .i64 4) ∧ wa.cell? ⟨w.heap.size + 1, 3, none⟩ = some (.slice (some ⟨w.heap.size, 0, none⟩) 2 2) := HMa.out.cells
  go_wp2_with fail
  refine (HVAL.out _ _ _ HIa.out).mono ?_; rintro e wb ⟨rfl, hbb⟩
  have HBb := Lib.hid (below_step HBa.out hbb); have HEb := Lib.hid (HEa.out.later hbb)
  clear hbb c0 c1 c2 c3
  go_wp2_with fail
  refine (HVAL0.out _).mono ?_; rintro e wc ⟨rfl, hbc⟩
  have HBc := Lib.hid (below_step HBb.out hbc); have HEc := Lib.hid (HEb.out.later hbc)
  clear hbc
  go_wp2_with fail
  refine (HNAME.out _ HEc.out).mono ?_; rintro e wd ⟨rfl, hbd⟩
  have HBd := Lib.hid (below_step HBc.out hbd)
  clear hbd
  go_wp2_with fail
  refine (HTEMP.out _).mono ?_; rintro e we ⟨rfl, rfl⟩
  have hsz : ((S.size : Nat) : Int) = 20 := by have := HSZ.out; omega
  have d20 : (((S.size : Nat) : Int) == 20) = true := by rw [hsz]; rfl
  clear hsz
  go_wp2_with fail
  go_ret
  exact ⟨rfl, HBd.out⟩
end Go.Proofs.YtokofifecdpmfaaGreatDoor
