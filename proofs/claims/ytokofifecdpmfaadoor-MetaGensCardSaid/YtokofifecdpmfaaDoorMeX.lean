/-
  MetaBack, MetaGens: the walks of the laws, and a meta that came in.
-/
import Derived.Test.YtokofifecdpmfaaDoorMeW
import Derived.Test.YtokofifecdpmfaaDoorFrP0
import Derived.OpenShut
namespace Go.Proofs.YtokofifecdpmfaaDoor
open Go.RowKit
open Go.ChangeShapes Go.WideShapes Go.Deep in
theorem ints_of_trod {H : Type} {enc : TypeId × Value → H} {w : World} {spare : Nat → Bool} {held : Bool} {fuel : Nat} {v : Value} {x : DataW H × List MemPlace} (h : DataW.trod enc Tryd.prog w 0 spare held fuel 28 [v] = some x) :
    ∃ (A : Option Addr) (c : Nat) (L : List Int), v = .slice A L.length c ∧ L.length ≤ maxLen ∧ Ints w A c L := by
  rcases open_ints Tryd.underlying28 Tryd.underlying3 (by kernel_rfl) h with ⟨hcs, _⟩ | ⟨a, len, cap, zs, hcs, _, hl, hm, hz, _, hcell, hwz⟩
  · exact ⟨none, 0, [], (List.cons.inj hcs).1, by simp, Ints.zero w⟩
  · have hlm : len ≤ zs.length := by rw [hz]; split <;> omega
    have hlen : (zs.take len).length = len := by rw [List.length_take]; omega
    refine ⟨some a, cap, zs.take len, by rw [hlen]; exact (List.cons.inj hcs).1, by rw [hlen]; omega, fun hn => ⟨a, rfl, ?_, fun i hi => ?_⟩, (fun h => by cases h), by rw [hlen]; exact hl⟩
    · rw [hlen] at hn
      have := block_lt_of_cell (hcell 0 (by omega))
      rwa [addr_add_block] at this
    · rw [hlen] at hi
      rw [hcell i (by omega)]
      simp [List.getD, hi]
set_option maxRecDepth 100000 in
open Go.ChangeShapes Go.WideShapes Go.Deep in
theorem open_meta {H : Type} {enc : TypeId × Value → H} {w : World} {r : Reach} {b0 : Nat} {spare : Nat → Bool} {held : Bool} {v : Value} {d : DataW H} {p : List MemPlace} (hv : Value.okWide Tryd.prog w r b0 30 v) (h : DataW.Trod enc Tryd.prog w 0 spare held 30 v d p) :
    ∃ (m : Me.M) (A : Option Addr) (c : Nat), v = .agg #[.int .i64 m.gen, .int .i64 m.next, .int .i64 m.wal, .slice A m.bs.length c] ∧ m.bs.length ≤ maxLen ∧ Ints w A c m.bs := by
  obtain ⟨cs, rfl, hcs⟩ := okWide_struct Tryd.underlying30 hv
  obtain ⟨fuel, hfu⟩ := h
  obtain ⟨xs, k, hk, hxy, hlen, hxl, hf⟩ := DataW.trod_struct Tryd.underlying30 hfu
  have hc : Tryd.prog.cellsOf 30 = 4 := by kernel_rfl
  rw [hc] at hlen
  have c0 : (Value.agg cs).cells.toList = cs.toList := rfl
  rw [c0] at hlen hf
  match xs, hxl, hcl : cs.toList, hlen with
  | [y0, y1, y2, y3], _, [v0, v1, v2, v3], _ =>
    rw [hcl] at hf
    have g0 := hf 0 _ rfl
    have g1 := hf 1 _ rfl
    have g2 := hf 2 _ rfl
    have g3 := hf 3 _ rfl
    have e0 : Tryd.prog.cellsOf 3 = 1 := by kernel_rfl
    have e1 : Tryd.prog.cellsOf 28 = 1 := by kernel_rfl
    simp [e0, e1] at g0 g1 g2 g3
    obtain ⟨a, ha, _⟩ := DataW.trod_int Tryd.underlying3 g0
    obtain ⟨b, hb, _⟩ := DataW.trod_int Tryd.underlying3 g1
    obtain ⟨d, hd, _⟩ := DataW.trod_int Tryd.underlying3 g2
    obtain ⟨A, c, L, h3, h4, h5⟩ := ints_of_trod g3
    refine ⟨⟨a, b, d, L⟩, A, c, ?_, h4, h5⟩
    have e : cs = #[.int .i64 a, .int .i64 b, .int .i64 d, .slice A L.length c] := Array.toList_inj.1 (by rw [hcl, (List.cons.inj ha).1, (List.cons.inj hb).1, (List.cons.inj hd).1, h3])
    rw [e]

set_option maxRecDepth 100000 in
set_option maxHeartbeats 4000000 in
theorem metaBack_walk0 (w : World) (hE : Env w) (m : Me.M) (A : Option Addr) (c : Nat) (hA : Ints w A c m.bs) (s : ByteArray) :
    Calls Tryd.prog 4 #[.agg #[.int .i64 m.gen, .int .i64 m.next, .int .i64 m.wal, .slice A m.bs.length c], .string s] w fun e w' => e = .returned (.bool true) ∧ Below w.heap.size w w' := by
  have hb1 : Below w.heap.size w (w.alloc (.cells #[.int .i64 m.gen, .int .i64 m.next, .int .i64 m.wal, .slice A m.bs.length c] 30)) := (Below.refl _ _).alloc (Nat.le_refl _) _
  have HM1 : Hid (MetaAt w.heap.size m A c (w.alloc (.cells #[.int .i64 m.gen, .int .i64 m.next, .int .i64 m.wal, .slice A m.bs.length c] 30))) := Lib.hid (heap_alloc_new _ _)
  have HB1 := Lib.hid hb1; have HE1 := Lib.hid (hE.later hb1); have HI1 := Lib.hid (hA.later hb1)
  clear hb1 hE hA
  generalize hw1 : w.alloc (.cells #[.int .i64 m.gen, .int .i64 m.next, .int .i64 m.wal, .slice A m.bs.length c] 30) = w1 at *
  have hwk := works_any w1 HE1.out
  have HWK := Lib.hid hwk; clear hwk
  by_cases hl : m.bs.length ≤ 600 ∧ s.size ≤ 600
  · obtain ⟨hl1, hl2⟩ := hl
    have d1 : decide ((600 : Int) < (m.bs.length : Int)) = false := by simp; omega
    have d2 : decide ((600 : Int) < (s.size : Int)) = false := by simp; omega
    have hput := fun W h => MPut_any m A c (by omega) W h
    have hval := fun W h => Valid_any m A c (by omega) W h
    have hgs := MGet_any s (by omega)
    have hemp := empty_is
    have HPUT := Lib.hid hput; have HVAL := Lib.hid hval
    clear hput hval
    -- the second half, from the call of Get(s) on
    have hz : ∀ W, Calls Tryd.prog 16 #[.agg #[.int .i64 0, .int .i64 0, .int .i64 0, .slice none 0 0], .agg #[.int .i64 0, .int .i64 0, .int .i64 0, .slice none 0 0]] W fun e w' => e = .returned (.bool true) ∧ Below W.heap.size W w' := fun W => by
      have := Same_any Me.zero Me.zero none none 0 0 (by decide) W (Ints.zero W) (Ints.zero W)
      rw [(Me.same_iff Me.zero Me.zero).2 rfl] at this
      exact this
    have hzc : ∀ W B d, Ints W B d [] → Calls Tryd.prog 16 #[.agg #[.int .i64 0, .int .i64 0, .int .i64 0, .slice B 0 d], .agg #[.int .i64 0, .int .i64 0, .int .i64 0, .slice none 0 0]] W fun e w' => e = .returned (.bool true) ∧ Below W.heap.size W w' := fun W B d h => by
      have := Same_any Me.zero Me.zero B none d 0 (by decide) W h (Ints.zero W)
      rw [(Me.same_iff Me.zero Me.zero).2 rfl] at this
      exact this
    have HZC := Lib.hid hzc
    clear hz hzc
    by_cases hg : (Me.got s).2 = 0
    · obtain ⟨hv2, hby⟩ := Me.got_yes s hg
      rw [hg] at hgs
      have hpo := fun W B d h => MPut_any (Me.got s).1 B d (by have := (Me.valid_okay hv2).2.2.2.2; omega) W h
      have hvo := fun W B d h => Valid_any (Me.got s).1 B d (by have := (Me.valid_okay hv2).2.2.2.2; omega) W h
      have e1 : Me.putB (Me.got s).1 = s := by unfold Me.putB; rw [if_pos hv2, hby]
      have e2 : Me.putE (Me.got s).1 = 0 := by unfold Me.putE; rw [if_pos hv2]
      have hgs2 : ∀ W, Calls Tryd.prog 14 #[.string s] W fun e w' => ∃ A c, e = .returned (.tuple #[.agg #[.int .i64 (Me.got s).1.gen, .int .i64 (Me.got s).1.next, .int .i64 (Me.got s).1.wal, .slice A (Me.got s).1.bs.length c], .int .i64 0]) ∧ Ints w' A c (Me.got s).1.bs ∧ (∀ ad, A = some ad → W.heap.size ≤ ad.block) ∧ Below W.heap.size W w' := hgs
      have hpo2 : ∀ W B d, Ints W B d (Me.got s).1.bs → Calls Tryd.prog 13 #[.agg #[.int .i64 (Me.got s).1.gen, .int .i64 (Me.got s).1.next, .int .i64 (Me.got s).1.wal, .slice B (Me.got s).1.bs.length d]] W fun e w' => e = .returned (.tuple #[.string s, .int .i64 0]) ∧ Below W.heap.size W w' := fun W B d h => by
        have := hpo W B d h
        rw [e1, e2] at this
        exact this
      rw [hv2] at hvo
      clear hgs hpo e1 e2 hby hg hv2
      generalize (Me.got s).1 = o at *
      have HGS := Lib.hid hgs2; have HPO := Lib.hid hpo2; have HVO := Lib.hid hvo
      clear hgs2 hpo2 hvo
      cases hv : Me.valid m
      · have e1 : Me.putB m = ByteArray.empty := by unfold Me.putB; rw [hv]; rfl
        have e2 : Me.putE m = 1 := by unfold Me.putE; rw [hv]; rfl
        rw [e1, e2] at HPUT
        rw [hv] at HVAL
        have hg0 := MGet_any ByteArray.empty (by simp)
        rw [Me.ex_none] at hg0
        have hg0' : ∀ W, Calls Tryd.prog 14 #[.string ByteArray.empty] W fun e w' => ∃ A c, e = .returned (.tuple #[.agg #[.int .i64 0, .int .i64 0, .int .i64 0, .slice A 0 c], .int .i64 9]) ∧ Ints w' A c [] ∧ (∀ ad, A = some ad → W.heap.size ≤ ad.block) ∧ Below W.heap.size W w' := hg0
        have HG0 := Lib.hid hg0'
        clear e1 e2 hv hg0 hg0'
        go_enter Tryd.func4, Tryd.ntmps4
        go_wp2_with fail
        refine HWK.out.mono ?_; rintro e w2 ⟨rfl, hb2⟩
        have HB2 := Lib.hid (below_step HB1.out hb2); have HM2 := Lib.hid (HM1.out.later hb2); have HI2 := Lib.hid (HI1.out.later hb2)
        clear hb2
        obtain ⟨c0, c1, c2, c3⟩ := HM2.out.cells
        go_wp2_with fail
        refine (HPUT.out _ HI2.out).mono ?_; rintro e w3 ⟨rfl, hb3⟩
        have HB3 := Lib.hid (below_step HB2.out hb3); have HM3 := Lib.hid (HM2.out.later hb3); have HI3 := Lib.hid (HI2.out.later hb3)
        clear hb3 c0 c1 c2 c3
        go_wp2_with fail

        refine (HG0.out _).mono ?_; rintro e w4 ⟨B, d, rfl, hJ4, -, hb4⟩
        have hal : Below w4.heap.size w4 (w4.alloc (.cells #[.int .i64 0, .int .i64 0, .int .i64 0, .slice B 0 d] 30)) := (Below.refl _ _).alloc (Nat.le_refl _) _
        have hb5 := hb4.trans (hal.mono hb4.size)
        have HB5 := Lib.hid (below_step HB3.out hb5); have HM5 := Lib.hid (HM3.out.later hb5); have HI5 := Lib.hid (HI3.out.later hb5)
        clear hb4 hal hb5 hJ4
        go_upto_region 8 with fail
        generalize w4.alloc (.cells #[.int .i64 0, .int .i64 0, .int .i64 0, .slice B 0 d] 30) = w5 at *
        generalize w4.heap.size = bn at *
        obtain ⟨c0, c1, c2, c3⟩ := HM5.out.cells
        go_wp2_with fail
        refine (HVAL.out _ HI5.out).mono ?_; rintro e w6 ⟨rfl, hb6⟩
        have HB6 := Lib.hid (below_step HB5.out hb6)
        clear hb6 c0 c1 c2 c3
        go_wp2_with fail
        refine (HGS.out _).mono ?_; rintro e w7 ⟨C, f, rfl, hK7, -, hb7⟩
        have hal : Below w7.heap.size w7 (w7.alloc (.cells #[.int .i64 o.gen, .int .i64 o.next, .int .i64 o.wal, .slice C o.bs.length f] 30)) := (Below.refl _ _).alloc (Nat.le_refl _) _
        have HO8 : Hid (MetaAt w7.heap.size o C f (w7.alloc (.cells #[.int .i64 o.gen, .int .i64 o.next, .int .i64 o.wal, .slice C o.bs.length f] 30))) := Lib.hid (heap_alloc_new _ _)
        have hb8 := hb7.trans (hal.mono hb7.size)
        have HB8 := Lib.hid (below_step HB6.out hb8); have HK8 := Lib.hid (hK7.later hal)
        clear hb7 hal hb8 hK7
        go_upto_region 11 with fail
        generalize w7.alloc (.cells #[.int .i64 o.gen, .int .i64 o.next, .int .i64 o.wal, .slice C o.bs.length f] 30) = w8 at *
        generalize w7.heap.size = bo at *
        obtain ⟨c0, c1, c2, c3⟩ := HO8.out.cells
        go_wp2_with fail
        refine (HPO.out _ _ _ HK8.out).mono ?_; rintro e w9 ⟨rfl, hb9⟩
        have HB9 := Lib.hid (below_step HB8.out hb9); have HO9 := Lib.hid (HO8.out.later hb9); have HK9 := Lib.hid (HK8.out.later hb9)
        clear hb9 c0 c1 c2 c3
        obtain ⟨c0, c1, c2, c3⟩ := HO9.out.cells
        go_wp2_with fail
        refine (HVO.out _ _ _ HK9.out).mono ?_; rintro e wa ⟨rfl, hba⟩
        have HBa := Lib.hid (below_step HB9.out hba)
        clear hba c0 c1 c2 c3
        go_wp2_with fail
        go_ret
        exact ⟨rfl, HBa.out⟩
      · have e1 : Me.putB m = Me.bytes m := by unfold Me.putB; rw [hv]; rfl
        have e2 : Me.putE m = 0 := by unfold Me.putE; rw [hv]; rfl
        rw [e1, e2] at HPUT
        rw [hv] at HVAL
        have hgb := MGet_any (Me.bytes m) (by have := Me.bytes_size m (Me.valid_okay hv).2.2.2.2; omega)
        rw [Me.got_bytes m hv] at hgb
        have hgb' : ∀ W, Calls Tryd.prog 14 #[.string (Me.bytes m)] W fun e w' => ∃ A c, e = .returned (.tuple #[.agg #[.int .i64 m.gen, .int .i64 m.next, .int .i64 m.wal, .slice A m.bs.length c], .int .i64 0]) ∧ Ints w' A c m.bs ∧ (∀ ad, A = some ad → W.heap.size ≤ ad.block) ∧ Below W.heap.size W w' := hgb
        have hsm := fun W A c B d h1 h2 => Same_any m m A B c d (by omega) W h1 h2
        rw [(Me.same_iff m m).2 rfl] at hsm
        have HGB := Lib.hid hgb'; have HSM := Lib.hid hsm
        clear e1 e2 hv hgb hgb' hsm
        generalize Me.bytes m = sb at *
        go_enter Tryd.func4, Tryd.ntmps4
        go_wp2_with fail
        refine HWK.out.mono ?_; rintro e w2 ⟨rfl, hb2⟩
        have HB2 := Lib.hid (below_step HB1.out hb2); have HM2 := Lib.hid (HM1.out.later hb2); have HI2 := Lib.hid (HI1.out.later hb2)
        clear hb2
        obtain ⟨c0, c1, c2, c3⟩ := HM2.out.cells
        go_wp2_with fail
        refine (HPUT.out _ HI2.out).mono ?_; rintro e w3 ⟨rfl, hb3⟩
        have HB3 := Lib.hid (below_step HB2.out hb3); have HM3 := Lib.hid (HM2.out.later hb3); have HI3 := Lib.hid (HI2.out.later hb3)
        clear hb3 c0 c1 c2 c3
        go_wp2_with fail

        refine (HGB.out _).mono ?_; rintro e w4 ⟨B, d, rfl, hJ4, -, hb4⟩
        have hal : Below w4.heap.size w4 (w4.alloc (.cells #[.int .i64 m.gen, .int .i64 m.next, .int .i64 m.wal, .slice B m.bs.length d] 30)) := (Below.refl _ _).alloc (Nat.le_refl _) _
        have HN5 : Hid (MetaAt w4.heap.size m B d (w4.alloc (.cells #[.int .i64 m.gen, .int .i64 m.next, .int .i64 m.wal, .slice B m.bs.length d] 30))) := Lib.hid (heap_alloc_new _ _)
        have hb5 := hb4.trans (hal.mono hb4.size)
        have HB5 := Lib.hid (below_step HB3.out hb5); have HM5 := Lib.hid (HM3.out.later hb5); have HI5 := Lib.hid (HI3.out.later hb5); have HJ5 := Lib.hid (hJ4.later hal)
        clear hb4 hal hb5 hJ4
        go_upto_region 8 with fail
        generalize w4.alloc (.cells #[.int .i64 m.gen, .int .i64 m.next, .int .i64 m.wal, .slice B m.bs.length d] 30) = w5 at *
        generalize w4.heap.size = bn at *
        obtain ⟨c0, c1, c2, c3⟩ := HM5.out.cells
        go_wp2_with fail
        refine (HVAL.out _ HI5.out).mono ?_; rintro e wv ⟨rfl, hbv⟩
        have HBv := Lib.hid (below_step HB5.out hbv); have HMv := Lib.hid (HM5.out.later hbv); have HNv := Lib.hid (HN5.out.later hbv); have HIv := Lib.hid (HI5.out.later hbv); have HJv := Lib.hid (HJ5.out.later hbv)
        clear hbv c0 c1 c2 c3
        obtain ⟨c0, c1, c2, c3⟩ := HMv.out.cells
        obtain ⟨e0, e1, e2, e3⟩ := HNv.out.cells
        go_wp2_with fail
        refine (HSM.out _ _ _ _ _ HIv.out HJv.out).mono ?_; rintro e w6 ⟨rfl, hb6⟩
        have HB6 := Lib.hid (below_step HBv.out hb6)
        clear hb6 c0 c1 c2 c3 e0 e1 e2 e3
        go_wp2_with fail
        refine (HGS.out _).mono ?_; rintro e w7 ⟨C, f, rfl, hK7, -, hb7⟩
        have hal : Below w7.heap.size w7 (w7.alloc (.cells #[.int .i64 o.gen, .int .i64 o.next, .int .i64 o.wal, .slice C o.bs.length f] 30)) := (Below.refl _ _).alloc (Nat.le_refl _) _
        have HO8 : Hid (MetaAt w7.heap.size o C f (w7.alloc (.cells #[.int .i64 o.gen, .int .i64 o.next, .int .i64 o.wal, .slice C o.bs.length f] 30))) := Lib.hid (heap_alloc_new _ _)
        have hb8 := hb7.trans (hal.mono hb7.size)
        have HB8 := Lib.hid (below_step HB6.out hb8); have HK8 := Lib.hid (hK7.later hal)
        clear hb7 hal hb8 hK7
        go_upto_region 11 with fail
        generalize w7.alloc (.cells #[.int .i64 o.gen, .int .i64 o.next, .int .i64 o.wal, .slice C o.bs.length f] 30) = w8 at *
        generalize w7.heap.size = bo at *
        obtain ⟨c0, c1, c2, c3⟩ := HO8.out.cells
        go_wp2_with fail
        refine (HPO.out _ _ _ HK8.out).mono ?_; rintro e w9 ⟨rfl, hb9⟩
        have HB9 := Lib.hid (below_step HB8.out hb9); have HO9 := Lib.hid (HO8.out.later hb9); have HK9 := Lib.hid (HK8.out.later hb9)
        clear hb9 c0 c1 c2 c3
        obtain ⟨c0, c1, c2, c3⟩ := HO9.out.cells
        go_wp2_with fail
        refine (HVO.out _ _ _ HK9.out).mono ?_; rintro e wa ⟨rfl, hba⟩
        have HBa := Lib.hid (below_step HB9.out hba)
        clear hba c0 c1 c2 c3
        go_wp2_with fail
        go_ret
        exact ⟨rfl, HBa.out⟩
    · obtain ⟨hz0, h910⟩ := Me.got_no s hg
      rw [hz0] at hgs
      have hgs2 : ∀ W, Calls Tryd.prog 14 #[.string s] W fun e w' => ∃ A c, e = .returned (.tuple #[.agg #[.int .i64 0, .int .i64 0, .int .i64 0, .slice A 0 c], .int .i64 ((Me.got s).2 : Nat)]) ∧ Ints w' A c [] ∧ (∀ ad, A = some ad → W.heap.size ≤ ad.block) ∧ Below W.heap.size W w' := hgs
      have hn1 : (((Me.got s).2 : Int) != 0) = true := by rw [bne_iff_ne]; omega
      have hn2 : (((Me.got s).2 : Int) == 9) = true ∨ ((((Me.got s).2 : Int) == 9) = false ∧ (((Me.got s).2 : Int) == 10) = true) := by
        rcases h910 with h | h <;> rw [h]
        · exact .inl rfl
        · exact .inr ⟨rfl, rfl⟩
      clear hgs hz0 h910 hg
      generalize (Me.got s).2 = er at *
      have HGS := Lib.hid hgs2; have HN2 := Lib.hid hn2
      clear hgs2 hn2
      cases hv : Me.valid m
      · have e1 : Me.putB m = ByteArray.empty := by unfold Me.putB; rw [hv]; rfl
        have e2 : Me.putE m = 1 := by unfold Me.putE; rw [hv]; rfl
        rw [e1, e2] at HPUT
        rw [hv] at HVAL
        have hg0 := MGet_any ByteArray.empty (by simp)
        rw [Me.ex_none] at hg0
        have hg0' : ∀ W, Calls Tryd.prog 14 #[.string ByteArray.empty] W fun e w' => ∃ A c, e = .returned (.tuple #[.agg #[.int .i64 0, .int .i64 0, .int .i64 0, .slice A 0 c], .int .i64 9]) ∧ Ints w' A c [] ∧ (∀ ad, A = some ad → W.heap.size ≤ ad.block) ∧ Below W.heap.size W w' := hg0
        have HG0 := Lib.hid hg0'
        clear e1 e2 hv hg0 hg0'
        go_enter Tryd.func4, Tryd.ntmps4
        go_wp2_with fail
        refine HWK.out.mono ?_; rintro e w2 ⟨rfl, hb2⟩
        have HB2 := Lib.hid (below_step HB1.out hb2); have HM2 := Lib.hid (HM1.out.later hb2); have HI2 := Lib.hid (HI1.out.later hb2)
        clear hb2
        obtain ⟨c0, c1, c2, c3⟩ := HM2.out.cells
        go_wp2_with fail
        refine (HPUT.out _ HI2.out).mono ?_; rintro e w3 ⟨rfl, hb3⟩
        have HB3 := Lib.hid (below_step HB2.out hb3); have HM3 := Lib.hid (HM2.out.later hb3); have HI3 := Lib.hid (HI2.out.later hb3)
        clear hb3 c0 c1 c2 c3
        go_wp2_with fail

        refine (HG0.out _).mono ?_; rintro e w4 ⟨B, d, rfl, hJ4, -, hb4⟩
        have hal : Below w4.heap.size w4 (w4.alloc (.cells #[.int .i64 0, .int .i64 0, .int .i64 0, .slice B 0 d] 30)) := (Below.refl _ _).alloc (Nat.le_refl _) _
        have hb5 := hb4.trans (hal.mono hb4.size)
        have HB5 := Lib.hid (below_step HB3.out hb5); have HM5 := Lib.hid (HM3.out.later hb5); have HI5 := Lib.hid (HI3.out.later hb5)
        clear hb4 hal hb5 hJ4
        go_upto_region 8 with fail
        generalize w4.alloc (.cells #[.int .i64 0, .int .i64 0, .int .i64 0, .slice B 0 d] 30) = w5 at *
        generalize w4.heap.size = bn at *
        obtain ⟨c0, c1, c2, c3⟩ := HM5.out.cells
        go_wp2_with fail
        refine (HVAL.out _ HI5.out).mono ?_; rintro e w6 ⟨rfl, hb6⟩
        have HB6 := Lib.hid (below_step HB5.out hb6)
        clear hb6 c0 c1 c2 c3
        go_wp2_with fail
        refine (HGS.out _).mono ?_; rintro e w7 ⟨C, f, rfl, hK7, -, hb7⟩
        have hal : Below w7.heap.size w7 (w7.alloc (.cells #[.int .i64 0, .int .i64 0, .int .i64 0, .slice C 0 f] 30)) := (Below.refl _ _).alloc (Nat.le_refl _) _
        have HO8 : Hid (MetaAt w7.heap.size Me.zero C f (w7.alloc (.cells #[.int .i64 0, .int .i64 0, .int .i64 0, .slice C 0 f] 30))) := Lib.hid (heap_alloc_new _ _)
        have hb8 := hb7.trans (hal.mono hb7.size)
        have HB8 := Lib.hid (below_step HB6.out hb8); have HK8 := Lib.hid (hK7.later hal)
        clear hb7 hal hb8 hK7
        go_upto_region 11 with fail
        generalize w7.alloc (.cells #[.int .i64 0, .int .i64 0, .int .i64 0, .slice C 0 f] 30) = w8 at *
        generalize w7.heap.size = bo at *
        rcases HN2.out with d9 | ⟨d9, d10⟩
        all_goals
          obtain ⟨c0, c1, c2, c3⟩ : w8.cell? ⟨bo, 0, none⟩ = some (.int .i64 0) ∧ w8.cell? ⟨bo, 1, none⟩ = some (.int .i64 0) ∧ w8.cell? ⟨bo, 2, none⟩ = some (.int .i64 0) ∧ w8.cell? ⟨bo, 3, none⟩ = some (.slice C 0 f) := HO8.out.cells
          go_wp2_with fail
          refine (HZC.out _ _ _ HK8.out).mono ?_; rintro e w9 ⟨rfl, hb9⟩
          have HB9 := Lib.hid (below_step HB8.out hb9)
          clear hb9 c0 c1 c2 c3
          go_wp2_with fail
          go_ret
          exact ⟨rfl, HB9.out⟩
      · have e1 : Me.putB m = Me.bytes m := by unfold Me.putB; rw [hv]; rfl
        have e2 : Me.putE m = 0 := by unfold Me.putE; rw [hv]; rfl
        rw [e1, e2] at HPUT
        rw [hv] at HVAL
        have hgb := MGet_any (Me.bytes m) (by have := Me.bytes_size m (Me.valid_okay hv).2.2.2.2; omega)
        rw [Me.got_bytes m hv] at hgb
        have hgb' : ∀ W, Calls Tryd.prog 14 #[.string (Me.bytes m)] W fun e w' => ∃ A c, e = .returned (.tuple #[.agg #[.int .i64 m.gen, .int .i64 m.next, .int .i64 m.wal, .slice A m.bs.length c], .int .i64 0]) ∧ Ints w' A c m.bs ∧ (∀ ad, A = some ad → W.heap.size ≤ ad.block) ∧ Below W.heap.size W w' := hgb
        have hsm := fun W A c B d h1 h2 => Same_any m m A B c d (by omega) W h1 h2
        rw [(Me.same_iff m m).2 rfl] at hsm
        have HGB := Lib.hid hgb'; have HSM := Lib.hid hsm
        clear e1 e2 hv hgb hgb' hsm
        generalize Me.bytes m = sb at *
        go_enter Tryd.func4, Tryd.ntmps4
        go_wp2_with fail
        refine HWK.out.mono ?_; rintro e w2 ⟨rfl, hb2⟩
        have HB2 := Lib.hid (below_step HB1.out hb2); have HM2 := Lib.hid (HM1.out.later hb2); have HI2 := Lib.hid (HI1.out.later hb2)
        clear hb2
        obtain ⟨c0, c1, c2, c3⟩ := HM2.out.cells
        go_wp2_with fail
        refine (HPUT.out _ HI2.out).mono ?_; rintro e w3 ⟨rfl, hb3⟩
        have HB3 := Lib.hid (below_step HB2.out hb3); have HM3 := Lib.hid (HM2.out.later hb3); have HI3 := Lib.hid (HI2.out.later hb3)
        clear hb3 c0 c1 c2 c3
        go_wp2_with fail

        refine (HGB.out _).mono ?_; rintro e w4 ⟨B, d, rfl, hJ4, -, hb4⟩
        have hal : Below w4.heap.size w4 (w4.alloc (.cells #[.int .i64 m.gen, .int .i64 m.next, .int .i64 m.wal, .slice B m.bs.length d] 30)) := (Below.refl _ _).alloc (Nat.le_refl _) _
        have HN5 : Hid (MetaAt w4.heap.size m B d (w4.alloc (.cells #[.int .i64 m.gen, .int .i64 m.next, .int .i64 m.wal, .slice B m.bs.length d] 30))) := Lib.hid (heap_alloc_new _ _)
        have hb5 := hb4.trans (hal.mono hb4.size)
        have HB5 := Lib.hid (below_step HB3.out hb5); have HM5 := Lib.hid (HM3.out.later hb5); have HI5 := Lib.hid (HI3.out.later hb5); have HJ5 := Lib.hid (hJ4.later hal)
        clear hb4 hal hb5 hJ4
        go_upto_region 8 with fail
        generalize w4.alloc (.cells #[.int .i64 m.gen, .int .i64 m.next, .int .i64 m.wal, .slice B m.bs.length d] 30) = w5 at *
        generalize w4.heap.size = bn at *
        obtain ⟨c0, c1, c2, c3⟩ := HM5.out.cells
        go_wp2_with fail
        refine (HVAL.out _ HI5.out).mono ?_; rintro e wv ⟨rfl, hbv⟩
        have HBv := Lib.hid (below_step HB5.out hbv); have HMv := Lib.hid (HM5.out.later hbv); have HNv := Lib.hid (HN5.out.later hbv); have HIv := Lib.hid (HI5.out.later hbv); have HJv := Lib.hid (HJ5.out.later hbv)
        clear hbv c0 c1 c2 c3
        obtain ⟨c0, c1, c2, c3⟩ := HMv.out.cells
        obtain ⟨e0, e1, e2, e3⟩ := HNv.out.cells
        go_wp2_with fail
        refine (HSM.out _ _ _ _ _ HIv.out HJv.out).mono ?_; rintro e w6 ⟨rfl, hb6⟩
        have HB6 := Lib.hid (below_step HBv.out hb6)
        clear hb6 c0 c1 c2 c3 e0 e1 e2 e3
        go_wp2_with fail
        refine (HGS.out _).mono ?_; rintro e w7 ⟨C, f, rfl, hK7, -, hb7⟩
        have hal : Below w7.heap.size w7 (w7.alloc (.cells #[.int .i64 0, .int .i64 0, .int .i64 0, .slice C 0 f] 30)) := (Below.refl _ _).alloc (Nat.le_refl _) _
        have HO8 : Hid (MetaAt w7.heap.size Me.zero C f (w7.alloc (.cells #[.int .i64 0, .int .i64 0, .int .i64 0, .slice C 0 f] 30))) := Lib.hid (heap_alloc_new _ _)
        have hb8 := hb7.trans (hal.mono hb7.size)
        have HB8 := Lib.hid (below_step HB6.out hb8); have HK8 := Lib.hid (hK7.later hal)
        clear hb7 hal hb8 hK7
        go_upto_region 11 with fail
        generalize w7.alloc (.cells #[.int .i64 0, .int .i64 0, .int .i64 0, .slice C 0 f] 30) = w8 at *
        generalize w7.heap.size = bo at *
        rcases HN2.out with d9 | ⟨d9, d10⟩
        all_goals
          obtain ⟨c0, c1, c2, c3⟩ : w8.cell? ⟨bo, 0, none⟩ = some (.int .i64 0) ∧ w8.cell? ⟨bo, 1, none⟩ = some (.int .i64 0) ∧ w8.cell? ⟨bo, 2, none⟩ = some (.int .i64 0) ∧ w8.cell? ⟨bo, 3, none⟩ = some (.slice C 0 f) := HO8.out.cells
          go_wp2_with fail
          refine (HZC.out _ _ _ HK8.out).mono ?_; rintro e w9 ⟨rfl, hb9⟩
          have HB9 := Lib.hid (below_step HB8.out hb9)
          clear hb9 c0 c1 c2 c3
          go_wp2_with fail
          go_ret
          exact ⟨rfl, HB9.out⟩
  · have hd : decide ((600 : Int) < (m.bs.length : Int)) = true ∨ (decide ((600 : Int) < (m.bs.length : Int)) = false ∧ decide ((600 : Int) < (s.size : Int)) = true) := by
      simp only [decide_eq_true_eq, decide_eq_false_iff_not]; omega
    clear hl
    rcases hd with d1 | ⟨d1, d2⟩
    all_goals
      go_enter Tryd.func4, Tryd.ntmps4
      go_wp2_with fail
      refine HWK.out.mono ?_; rintro e w2 ⟨rfl, hb2⟩
      have HB2 := Lib.hid (below_step HB1.out hb2); have HM2 := Lib.hid (HM1.out.later hb2)
      clear hb2
      obtain ⟨c0, c1, c2, c3⟩ := HM2.out.cells
      go_wp2_with fail
      go_ret
      exact ⟨rfl, HB2.out⟩
end Go.Proofs.YtokofifecdpmfaaDoor
