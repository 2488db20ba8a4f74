/-
  What Get of package meta comes to.
-/
import Derived.Test.YtokofifecdpmfaaGreatDoorMeE
import Derived.Test.YtokofifecdpmfaaGreatDoorMeS
import Derived.Test.YtokofifecdpmfaaGreatDoorFrI
namespace Go.Proofs.YtokofifecdpmfaaGreatDoor
open Go.RowKit
namespace Me
theorem rest_length (gen : Int) : ∀ (k : Nat) (n : Int) (L : List Int) (l : Int) (c : ByteArray × Bool), L.length ≤ 40 → (rest gen k n L l c).length ≤ 40
  | 0, n, L, l, c, h => by rw [rest]; exact h
  | k + 1, n, L, l, c, h => by
    rw [rest]
    split
    · exact h
    · rename_i h2
      exact rest_length gen k _ _ _ _ (by simp only [List.length_append, List.length_cons, List.length_nil]; omega)
theorem read_length (s : ByteArray) (gen : Int) : (read s gen).bs.length ≤ 40 := rest_length gen 41 _ [] 0 _ (by simp)
theorem got_open (s : ByteArray) (h : (Fr.opened s amet).2.2.2 ≠ 0) : got s = (zero, (Fr.opened s amet).2.2.2) := by unfold got; rw [if_pos h]
end Me

set_option maxRecDepth 100000 in
set_option maxHeartbeats 4000000 in
theorem MGet_any (s : ByteArray) (hs : s.size ≤ 100000) (w : World) :
    Calls Tryz.prog 13 #[.string s] w fun e w' => ∃ A c, e = .returned (.tuple #[(Me.got s).1.val A c, .int .i64 ((Me.got s).2 : Nat)]) ∧ Ints w' A c (Me.got s).1.bs ∧ (∀ ad, A = some ad → w.heap.size ≤ ad.block) ∧ Below w.heap.size w w' := by
  have hrow : RowIs (w.alloc (.cells #[.int .i64 0, .int .i64 0, .int .i64 0, .slice none 0 0] 24)) w.heap.size (.cells #[.int .i64 0, .int .i64 0, .int .i64 0, .slice none 0 0] 24) := RowIs.one _ _
  have hb1 : Below w.heap.size w (w.alloc (.cells #[.int .i64 0, .int .i64 0, .int .i64 0, .slice none 0 0] 24)) := (Below.refl _ w).alloc (Nat.le_refl _) _
  have hend : ∀ (wr : World) (m : Me.M) (n : Nat) (A : Option Addr) (cp : Nat) (a : Act), RowIs wr w.heap.size (.cells #[.int .i64 0, .int .i64 0, .int .i64 0, .slice none 0 0] 24) → Below w.heap.size w wr → Ints wr A cp m.bs → (∀ ad, A = some ad → w.heap.size < ad.block) → Me.got s = (m, n) →
      a.tmps.getD 2 undef = .pointer (some ⟨w.heap.size, 0, none⟩) → a.tmps.getD 3 undef = .int .i64 (n : Int) → a.defers = [] →
      bodyPost Tryz.prog Tryz.f13 (fun e w' => ∃ A c, e = .returned (.tuple #[(Me.got s).1.val A c, .int .i64 ((Me.got s).2 : Nat)]) ∧ Ints w' A c (Me.got s).1.bs ∧ (∀ ad, A = some ad → w.heap.size ≤ ad.block) ∧ Below w.heap.size w w') .ret a
        ((((wr.setCell ⟨w.heap.size, 0, none⟩ (.int .i64 m.gen)).setCell ⟨w.heap.size, 1, none⟩ (.int .i64 m.next)).setCell ⟨w.heap.size, 2, none⟩ (.int .i64 m.wal)).setCell ⟨w.heap.size, 3, none⟩ (.slice A m.bs.length cp)) := fun wr m n A cp a h1 h2 h3 h4 h5 h6 h7 h8 => by
    have hgr := grown_four wr w.heap.size (.int .i64 m.gen) (.int .i64 m.next) (.int .i64 m.wal) (.slice A m.bs.length cp)
    have hres := meta_four h1 (.int .i64 m.gen) (.int .i64 m.next) (.int .i64 m.wal) (.slice A m.bs.length cp)
    have hin : Ints ((((wr.setCell ⟨w.heap.size, 0, none⟩ (.int .i64 m.gen)).setCell ⟨w.heap.size, 1, none⟩ (.int .i64 m.next)).setCell ⟨w.heap.size, 2, none⟩ (.int .i64 m.wal)).setCell ⟨w.heap.size, 3, none⟩ (.slice A m.bs.length cp)) A cp m.bs := ⟨fun hn => by
      obtain ⟨ad, e, hlt, hc⟩ := h3.row hn
      have hne := h4 ad e
      have hk := hgr.block ad.block hlt (by simp; omega)
      refine ⟨ad, e, by have := hgr.size; omega, fun i hi => ?_⟩
      rw [← hc i hi]
      unfold World.cell?
      rw [addr_add_block, hk], h3.nil, h3.le⟩
    rw [h5]
    refine bodyPost_ret (v := .tuple #[.agg #[.int .i64 m.gen, .int .i64 m.next, .int .i64 m.wal, .slice A m.bs.length cp], .int .i64 (n : Int)]) ?_ h8 ⟨A, cp, rfl, hin, fun ad e => Nat.le_of_lt (h4 ad e), h2.grown hgr h2.size (fun r e => by cases e; exact Nat.le_refl _)⟩
    have := results_cell_tmp (P := Tryz.prog) (fn := Tryz.f13) rfl a.tmps _ w.heap.size 24 _ (0, 0) _ h6 hres Tryz.underlying24 rfl meta_size
    rw [this, h7]
  have hop : ∀ W, Calls Tryz.prog 30 #[.string s, .string ⟨#[65, 77, 69, 84]⟩] W (Four s Me.amet W) := fun W => Open_any s (by unfold maxLen; omega) Me.amet (by decide) W
  unfold Four at hop
  have HE := Lib.hid hend; have HR := Lib.hid hrow; have HB := Lib.hid hb1
  clear hend hrow hb1
  by_cases h0 : (Fr.opened s Me.amet).2.2.2 = 0
  · have hrz := Fr.opened_size s Me.amet
    have hgt : Me.got s = if (Fr.get (Fr.opened s Me.amet).2.2.1 ((Fr.opened s Me.amet).2.2.1.size : Nat)).2.2 = 0 ∧ Me.valid (Me.read (Fr.get (Fr.opened s Me.amet).2.2.1 ((Fr.opened s Me.amet).2.2.1.size : Nat)).1 ((Fr.opened s Me.amet).1 : Nat)) = true ∧ Me.bytes (Me.read (Fr.get (Fr.opened s Me.amet).2.2.1 ((Fr.opened s Me.amet).2.2.1.size : Nat)).1 ((Fr.opened s Me.amet).1 : Nat)) = s then (Me.read (Fr.get (Fr.opened s Me.amet).2.2.1 ((Fr.opened s Me.amet).2.2.1.size : Nat)).1 ((Fr.opened s Me.amet).1 : Nat), 0) else (Me.zero, 9) := by
      conv => lhs; unfold Me.got
      rw [if_neg (by simpa using h0)]
    rw [h0] at hop
    clear h0
    generalize (Fr.opened s Me.amet).1 = a1 at *
    generalize (Fr.opened s Me.amet).2.1 = a2 at *
    generalize (Fr.opened s Me.amet).2.2.1 = a3 at *
    have hget := fun W => Get_any a3 (by unfold maxLen; omega) (a3.size : Nat) (Lib.hid (by omega)) W
    have hbz : (Fr.get a3 (a3.size : Nat)).1.size ≤ 100000 := by
      by_cases h : (Fr.get a3 (a3.size : Nat)).2.2 = 0
      · have := (Fr.get_whole a3 _ h).2; omega
      · rw [(Fr.get_not a3 _ h).1]; simp
    generalize (Fr.get a3 (a3.size : Nat)).1 = b1 at *
    generalize (Fr.get a3 (a3.size : Nat)).2.1 = b2 at *
    generalize (Fr.get a3 (a3.size : Nat)).2.2 = sh at *
    have hrd := fun W => mread_any b1 (by omega) (a1 : Nat) W
    have hml := Me.read_length b1 (a1 : Nat)
    generalize Me.read b1 (a1 : Nat) = m at *
    have hpt := fun A c W h => MPut_any m A c (by omega) W h
    have hpb : (sh = 0 ∧ Me.valid m = true ∧ Me.bytes m = s) ↔ (sh = 0 ∧ Me.putE m = 0 ∧ Me.putB m = s) := by
      unfold Me.putE Me.putB
      cases hv : Me.valid m <;> simp
    simp only [hpb] at hgt
    generalize Me.putB m = pb at *
    generalize Me.putE m = pe at *
    have HO := Lib.hid hop; have HGE := Lib.hid hget; have HRD := Lib.hid hrd; have HPT := Lib.hid hpt; have HG := Lib.hid hgt
    clear hop hget hrd hpt hgt hpb hrz hbz
    generalize hw1 : w.alloc (.cells #[.int .i64 0, .int .i64 0, .int .i64 0, .slice none 0 0] 24) = w1 at *
    go_enter Tryz.func13, Tryz.ntmps13
    go_wp2_with fail
    refine (HO.out _).mono ?_; rintro e w2 ⟨rfl, hb2⟩
    have HB2 := Lib.hid (below_step HB.out hb2); have HR2 := Lib.hid (HR.out.keep hb2); clear hb2
    go_wp2_with fail
    refine (HGE.out _).mono ?_; rintro e w3 ⟨rfl, hb3⟩
    have HB3 := Lib.hid (below_step HB2.out hb3); have HR3 := Lib.hid (HR2.out.keep hb3); clear hb3
    go_wp2_with fail
    refine (HRD.out _).mono ?_; rintro e w4 ⟨A, c, rfl, hI4, hfr, hb4⟩
    have hlt3 : w.heap.size < w3.heap.size := (Array.getElem?_eq_some_iff.1 HR3.out).1
    have hfr2 : ∀ ad, A = some ad → w.heap.size < ad.block := fun ad e => by have := hfr ad e; omega
    have HB4 := Lib.hid (below_step HB3.out hb4); have HR4 := Lib.hid (HR3.out.keep hb4); have HI4 := Lib.hid hI4; have HFR := Lib.hid hfr2
    clear hb4 hI4 hfr hfr2 hlt3
    rw [show m.val A c = .agg #[.int .i64 m.gen, .int .i64 m.next, .int .i64 m.wal, .slice A m.bs.length c] from rfl]
    have hal : Below w4.heap.size w4 (w4.alloc (.cells #[.int .i64 m.gen, .int .i64 m.next, .int .i64 m.wal, .slice A m.bs.length c] 24)) := (Below.refl _ w4).alloc (Nat.le_refl _) _
    have HM5 : Hid (MetaAt w4.heap.size m A c (w4.alloc (.cells #[.int .i64 m.gen, .int .i64 m.next, .int .i64 m.wal, .slice A m.bs.length c] 24))) := Lib.hid (heap_alloc_new _ _)
    have HB5 := Lib.hid (below_step HB4.out hal); have HR5 := Lib.hid (HR4.out.keep hal); have HI5 := Lib.hid (HI4.out.later hal)
    clear hal
    go_upto_region 6 with fail
    generalize w4.alloc (.cells #[.int .i64 m.gen, .int .i64 m.next, .int .i64 m.wal, .slice A m.bs.length c] 24) = w5 at *
    generalize w4.heap.size = bm at *
    obtain ⟨c0, c1, c2, c3⟩ := HM5.out.cells
    go_wp2_with fail
    refine (HPT.out A c _ HI5.out).mono ?_; rintro e w6 ⟨rfl, hb6⟩
    have HB6 := Lib.hid (below_step HB5.out hb6); have HR6 := Lib.hid (HR5.out.keep hb6); have HI6 := Lib.hid (HI5.out.later hb6); have HM6 := Lib.hid (HM5.out.later hb6)
    clear hb6 c0 c1 c2 c3
    obtain ⟨c0, c1, c2, c3⟩ := HM6.out.cells
    obtain ⟨⟨y0, y1, y2, y3⟩, ⟨f0, f1, f2, f3⟩⟩ := meta_cells HR6.out
    have hbe := str_beq pb s
    by_cases hall : sh = 0 ∧ pe = 0 ∧ pb = s
    · have hgt := HG.out
      rw [if_pos hall] at hgt
      obtain ⟨rfl, rfl, hps⟩ := hall
      have d3 : (pb.toList == s.toList) = true := by rw [hbe]; simpa using hps
      have HGT := Lib.hid hgt
      clear hgt hps hbe
      go_wp2_with fail
      exact HE.out w6 m 0 A c _ HR6.out HB6.out HI6.out HFR.out HGT.out rfl rfl rfl
    · have hgt := HG.out
      rw [if_neg hall] at hgt
      have hd : ((sh : Int) != 0) = true ∨ (((sh : Int) != 0) = false ∧ ((pe : Int) != 0) = true) ∨ (((sh : Int) != 0) = false ∧ ((pe : Int) != 0) = false ∧ (pb.toList == s.toList) = false) := by
        rw [hbe]
        by_cases h1 : sh = 0
        · by_cases h2 : pe = 0
          · right; right
            refine ⟨by simp [h1], by simp [h2], ?_⟩
            simp only [decide_eq_false_iff_not]
            exact fun e => hall ⟨h1, h2, e⟩
          · right; left; exact ⟨by simp [h1], by rw [bne_iff_ne]; omega⟩
        · left; rw [bne_iff_ne]; omega
      have HGT := Lib.hid hgt
      clear hgt hall hbe
      rcases hd with d1 | ⟨d1, d2⟩ | ⟨d1, d2, d3⟩
      · go_wp2_with fail
        exact HE.out w6 Me.zero 9 none 0 _ HR6.out HB6.out (Ints.zero _) (fun ad e => by cases e) HGT.out rfl rfl rfl
      · go_wp2_with fail
        exact HE.out w6 Me.zero 9 none 0 _ HR6.out HB6.out (Ints.zero _) (fun ad e => by cases e) HGT.out rfl rfl rfl
      · go_wp2_with fail
        exact HE.out w6 Me.zero 9 none 0 _ HR6.out HB6.out (Ints.zero _) (fun ad e => by cases e) HGT.out rfl rfl rfl
  · have hgt := Me.got_open s h0
    have d1 : (((Fr.opened s Me.amet).2.2.2 : Int) != 0) = true := by rw [bne_iff_ne]; omega
    have HG := Lib.hid hgt
    clear hgt h0
    generalize (Fr.opened s Me.amet).1 = a1 at *
    generalize (Fr.opened s Me.amet).2.1 = a2 at *
    generalize (Fr.opened s Me.amet).2.2.1 = a3 at *
    generalize (Fr.opened s Me.amet).2.2.2 = a4 at *
    have HO := Lib.hid hop; clear hop
    generalize hw1 : w.alloc (.cells #[.int .i64 0, .int .i64 0, .int .i64 0, .slice none 0 0] 24) = w1 at *
    go_enter Tryz.func13, Tryz.ntmps13
    go_wp2_with fail
    refine (HO.out _).mono ?_; rintro e w2 ⟨rfl, hb2⟩
    have HB2 := Lib.hid (below_step HB.out hb2); have HR2 := Lib.hid (HR.out.keep hb2); clear hb2
    obtain ⟨⟨y0, y1, y2, y3⟩, ⟨f0, f1, f2, f3⟩⟩ := meta_cells HR2.out
    go_wp2_with fail
    exact HE.out w2 Me.zero a4 none 0 _ HR2.out HB2.out (Ints.zero _) (fun ad e => by cases e) HG.out rfl rfl rfl
end Go.Proofs.YtokofifecdpmfaaGreatDoor
