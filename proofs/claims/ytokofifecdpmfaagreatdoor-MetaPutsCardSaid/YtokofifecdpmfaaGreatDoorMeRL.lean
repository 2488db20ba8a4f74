/-
  MetaPuts: the walk of the law.
-/
import Derived.Test.YtokofifecdpmfaaGreatDoorMeRK
import Derived.Test.YtokofifecdpmfaaGreatDoorMeX
namespace Go.Proofs.YtokofifecdpmfaaGreatDoor
open Go.RowKit
/-- what MetaPuts holds on to: its two metas -/
structure LawPut (w : World) (b1 b2 : Nat) (m n : Me.M) (A B : Option Addr) (c d : Nat) (W : World) : Prop where
  ma : MetaAt b1 m A c W
  mb : MetaAt b2 n B d W
  ra : Ints W A c m.bs
  rb : Ints W B d n.bs
  bel : Below w.heap.size w W
theorem LawPut.later {w : World} {b1 b2 : Nat} {m n : Me.M} {A B : Option Addr} {c d : Nat} {W W2 : World} (h : LawPut w b1 b2 m n A B c d W) (hb : Below W.heap.size W W2) : LawPut w b1 b2 m n A B c d W2 := ⟨h.ma.later hb, h.mb.later hb, h.ra.later hb, h.rb.later hb, below_step h.bel hb⟩
theorem LawPut.drew {w : World} {b1 b2 : Nat} {m n : Me.M} {A B : Option Addr} {c d : Nat} {W : World} (h : LawPut w b1 b2 m n A B c d W) : LawPut w b1 b2 m n A B c d W.drew := ⟨h.ma, h.mb, ⟨h.ra.row, h.ra.nil, h.ra.le⟩, ⟨h.rb.row, h.rb.nil, h.rb.le⟩, h.bel.drew⟩
theorem LawPut.all {w : World} {b1 b2 : Nat} {m n : Me.M} {A B : Option Addr} {c d : Nat} {W : World} (h : LawPut w b1 b2 m n A B c d W) : W.cell? ⟨b1, 0, none⟩ = some (.int .i64 m.gen) ∧ W.cell? ⟨b1, 1, none⟩ = some (.int .i64 m.next) ∧ W.cell? ⟨b1, 2, none⟩ = some (.int .i64 m.wal) ∧ W.cell? ⟨b1, 3, none⟩ = some (.slice A m.bs.length c) ∧ W.cell? ⟨b2, 0, none⟩ = some (.int .i64 n.gen) ∧ W.cell? ⟨b2, 1, none⟩ = some (.int .i64 n.next) ∧ W.cell? ⟨b2, 2, none⟩ = some (.int .i64 n.wal) ∧ W.cell? ⟨b2, 3, none⟩ = some (.slice B n.bs.length d) ∧ LawPut w b1 b2 m n A B c d W :=
  ⟨h.ma.cells.1, h.ma.cells.2.1, h.ma.cells.2.2.1, h.ma.cells.2.2.2, h.mb.cells.1, h.mb.cells.2.1, h.mb.cells.2.2.1, h.mb.cells.2.2.2, h⟩
set_option maxRecDepth 100000 in
set_option maxHeartbeats 4000000 in
theorem metaPuts_walk0 (w : World) (hE : Env w) (m n : Me.M) (A B : Option Addr) (c d : Nat) (hA : Ints w A c m.bs) (hB : Ints w B d n.bs) :
    Calls Tryz.prog 3 #[.agg #[.int .i64 m.gen, .int .i64 m.next, .int .i64 m.wal, .slice A m.bs.length c], .agg #[.int .i64 n.gen, .int .i64 n.next, .int .i64 n.wal, .slice B n.bs.length d]] w fun e w' => e = .returned (.bool true) ∧ Below w.heap.size w w' := by
  have key : ∃ w2, w2 = (w.alloc (.cells #[.int .i64 m.gen, .int .i64 m.next, .int .i64 m.wal, .slice A m.bs.length c] 24)).alloc (.cells #[.int .i64 n.gen, .int .i64 n.next, .int .i64 n.wal, .slice B n.bs.length d] 24) ∧ LawPut w w.heap.size (w.heap.size + 1) m n A B c d w2 ∧ Env w2 := by
    have b1 : Below w.heap.size w (w.alloc (.cells #[.int .i64 m.gen, .int .i64 m.next, .int .i64 m.wal, .slice A m.bs.length c] 24)) := (Below.refl _ _).alloc (Nat.le_refl _) _
    have m1 : MetaAt w.heap.size m A c (w.alloc (.cells #[.int .i64 m.gen, .int .i64 m.next, .int .i64 m.wal, .slice A m.bs.length c] 24)) := heap_alloc_new _ _
    have z1 : (w.alloc (.cells #[.int .i64 m.gen, .int .i64 m.next, .int .i64 m.wal, .slice A m.bs.length c] 24)).heap.size = w.heap.size + 1 := by simp
    have hE1 := hE.later b1
    have hA1 := hA.later b1
    have hB1 := hB.later b1
    generalize w.alloc (.cells #[.int .i64 m.gen, .int .i64 m.next, .int .i64 m.wal, .slice A m.bs.length c] 24) = w1 at *
    have b2 : Below w1.heap.size w1 (w1.alloc (.cells #[.int .i64 n.gen, .int .i64 n.next, .int .i64 n.wal, .slice B n.bs.length d] 24)) := (Below.refl _ _).alloc (Nat.le_refl _) _
    have m2 : MetaAt w1.heap.size n B d (w1.alloc (.cells #[.int .i64 n.gen, .int .i64 n.next, .int .i64 n.wal, .slice B n.bs.length d] 24)) := heap_alloc_new _ _
    rw [z1] at m2
    exact ⟨_, rfl, ⟨m1.later b2, m2, hA1.later b2, hB1.later b2, below_step b1 b2⟩, hE1.later b2⟩
  obtain ⟨w2, hw2, hh, he⟩ := key
  have HH2 := Lib.hid hh
  have HWK := Lib.hid (works_any w2 he)
  clear hh he hA hB hE
  have hw2' : (w.alloc (.cells #[.int .i64 m.gen, .int .i64 m.next, .int .i64 m.wal, .slice A m.bs.length c] 24)).alloc (.cells #[.int .i64 n.gen, .int .i64 n.next, .int .i64 n.wal, .slice B n.bs.length d] 24) = w2 := hw2.symm
  clear hw2
  by_cases hl : m.bs.length ≤ 600 ∧ n.bs.length ≤ 600
  · obtain ⟨hl1, hl2⟩ := hl
    have d1 : decide ((600 : Int) < (m.bs.length : Int)) = false := by simp; omega
    have d2 : decide ((600 : Int) < (n.bs.length : Int)) = false := by simp; omega
    have HPUT := Lib.hid (fun W h => MPut_any m A c (by omega) W h)
    have HRPUT := Lib.hid (fun W h => rMPut_any m A c (by omega) W h)
    have HVAL := Lib.hid (fun W h => Valid_any m A c (by omega) W h)
    have HRVAL := Lib.hid (fun W h => rValid_any m A c (by omega) W h)
    have HSM := Lib.hid (fun W h1 h2 => Same_any m n A B c d (by omega) W h1 h2)
    have HRSM := Lib.hid (fun W h1 h2 => rSame_any m n A B c d (by omega) W h1 h2)
    have HLM := Lib.hid (fun W => LOf_any m A c W)
    have HLN := Lib.hid (fun W => LOf_any n B d W)
    clear hl1 hl2
    generalize Me.putB m = pb at *
    generalize Me.putE m = pe at *
    generalize Me.valid m = va at *
    generalize Me.same m n = sa at *
    go_enter Tryz.func3, Tryz.ntmps3
    go_upto_region 1 with fail
    try rw [hw2']
    clear hw2'
    go_wp2_with fail
    refine HWK.out.mono ?_; rintro e w3 ⟨rfl, hb3⟩
    have HH3 := Lib.hid (HH2.out.later hb3); clear hb3
    obtain ⟨c0, c1, c2, c3⟩ := HH3.out.ma.cells
    obtain ⟨e0, e1, e2, e3⟩ := HH3.out.mb.cells
    go_wp2_with fail
    refine (HPUT.out _ HH3.out.ra).mono ?_; rintro e w4 ⟨rfl, hb4⟩
    have HH4 := Lib.hid (HH3.out.later hb4); clear hb4 c0 c1 c2 c3 e0 e1 e2 e3
    obtain ⟨c0, c1, c2, c3⟩ := HH4.out.ma.cells
    go_wp2_with fail
    refine (HLM.out _).mono ?_; rintro e w5 ⟨rfl, hb5⟩
    have HH5 := Lib.hid (HH4.out.later hb5); clear hb5 c0 c1 c2 c3
    go_wp2_with fail
    refine (HRPUT.out _ HH5.out.ra).mono ?_; rintro e w6 ⟨rfl, hb6⟩
    have HH6 := Lib.hid (HH5.out.later hb6); clear hb6
    obtain ⟨c0, c1, c2, c3⟩ := HH6.out.ma.cells
    go_wp2_with fail
    refine (HLM.out _).mono ?_; rintro e w7 ⟨rfl, hb7⟩
    have HH7 := Lib.hid (HH6.out.later hb7); clear hb7 c0 c1 c2 c3
    go_wp2_with fail
    refine (HRVAL.out _ HH7.out.ra).mono ?_; rintro e w8 ⟨rfl, hb8⟩
    have HH8 := Lib.hid (HH7.out.later hb8); clear hb8
    go_upto_region 9 with fail
    go_cut [11] (fun v11 wx => v11 = .bool sa ∧ LawPut w w.heap.size (w.heap.size + 1) m n A B c d wx)
    case first =>
      refine plain_held (fun U => LawPut w w.heap.size (w.heap.size + 1) m n A B c d U) (by kernel_rfl) ?_
      have hS := HH8.out.drew
      generalize w8.drew = wd at *
      have HHd := Lib.hid hS
      refine wpAnyH_pickQ (by kernel_rfl) Only.panic Only.keepsIn (w := wd) hS [0, 2] 4 _ _ (by kernel_rfl) ?_
      refine PickQ.value (d := some 40) (.agg #[.int .i64 m.gen, .int .i64 m.next, .int .i64 m.wal, .slice A m.bs.length c]) rfl rfl (by kernel_rfl) (fun U hU => (by obtain ⟨h0, h1, h2, h3, -⟩ := hU.all; go_simp)) ?_
      refine PickQ.value (d := some 42) (.agg #[.int .i64 n.gen, .int .i64 n.next, .int .i64 n.wal, .slice B n.bs.length d]) rfl rfl (by kernel_rfl) (fun U hU => (by obtain ⟨-, -, -, -, h0, h1, h2, h3, -⟩ := hU.all; go_simp)) ?_
      simp only [PickQ, Act.put, List.setIfInBounds_toArray]
      clear hS
      refine wpAnyH_one (i := 1) (by kernel_rfl) rfl (by kernel_rfl) ?_
      intro K hK
      unfold Oper.wp
      go_simp
      refine (HLM.out _).mono ?_; rintro e W1 ⟨rfl, hb1⟩
      have HX1 := Lib.hid (HHd.out.later hb1)
      refine hK _ _ HX1.out (fun _ => ?_)
      clear hK K hb1
      refine wpAnyH_one (i := 3) (by kernel_rfl) rfl (by kernel_rfl) ?_
      intro K hK
      unfold Oper.wp
      go_simp
      refine (HLN.out _).mono ?_; rintro e W2 ⟨rfl, hb2⟩
      have HX2 := Lib.hid (HX1.out.later hb2)
      refine hK _ _ HX2.out (fun _ => ?_)
      clear hK K hb2
      refine wpAnyH_one (i := 4) (by kernel_rfl) rfl (by kernel_rfl) ?_
      intro K hK
      unfold Oper.wp
      go_simp
      refine (HRSM.out _ HX2.out.ra HX2.out.rb).mono ?_; rintro e W3 ⟨rfl, hb3⟩
      have HX3 := Lib.hid (HX2.out.later hb3)
      refine hK _ _ HX3.out (fun _ => ?_)
      clear hK K hb3
      refine wpAnyH_one (i := 5) (by kernel_rfl) rfl (by kernel_rfl) ?_
      intro K hK
      unfold Oper.wp
      go_simp
      refine hK _ _ HX3.out (fun _ => ?_)
      clear hK K
      refine wpAnyH_done (by kernel_rfl) ?_ _
      refine Only.next ?_
      go_wp2_with fail
      go_meet
      exact ⟨rfl, HX3.out⟩
    case rest =>
      obtain ⟨rfl, hh⟩ := hcut
      have HH9 := Lib.hid hh; clear hh
      obtain ⟨c0, c1, c2, c3⟩ := HH9.out.ma.cells
      go_wp2_with fail
      refine (HVAL.out _ HH9.out.ra).mono ?_; rintro e wa ⟨rfl, hba⟩
      have HHa := Lib.hid (HH9.out.later hba); clear hba c0 c1 c2 c3
      obtain ⟨c0, c1, c2, c3⟩ := HHa.out.ma.cells
      obtain ⟨e0, e1, e2, e3⟩ := HHa.out.mb.cells
      go_wp2_with fail
      refine (HSM.out _ HHa.out.ra HHa.out.rb).mono ?_; rintro e wb ⟨rfl, hbb⟩
      have HHb := Lib.hid (HHa.out.later hbb); clear hbb c0 c1 c2 c3 e0 e1 e2 e3
      go_wp2_with fail
      go_ret
      exact ⟨rfl, HHb.out.bel⟩
  · have hd : decide ((600 : Int) < (m.bs.length : Int)) = true ∨ (decide ((600 : Int) < (m.bs.length : Int)) = false ∧ decide ((600 : Int) < (n.bs.length : Int)) = true) := by
      simp only [decide_eq_true_eq, decide_eq_false_iff_not]; omega
    clear hl
    rcases hd with d1 | ⟨d1, d2⟩
    all_goals
      go_enter Tryz.func3, Tryz.ntmps3
      go_upto_region 1 with fail
      try rw [hw2']
      clear hw2'
      go_wp2_with fail
      refine HWK.out.mono ?_; rintro e w3 ⟨rfl, hb3⟩
      have HH3 := Lib.hid (HH2.out.later hb3); clear hb3
      obtain ⟨c0, c1, c2, c3⟩ := HH3.out.ma.cells
      obtain ⟨e0, e1, e2, e3⟩ := HH3.out.mb.cells
      go_wp2_with fail
      go_ret
      exact ⟨rfl, HH3.out.bel⟩
set_option maxRecDepth 100000 in
theorem metaPuts_walk {H : Type} {enc : TypeId × Value → H} {r0 r1 : Reach} {b0 b1 : Nat} {v0 v1 : Value} {d0 d1 : DataW H} {p0 p1 : List MemPlace} (w : World) (hE : Env w)
    (hv0 : Value.okWide Tryz.prog w r0 b0 24 v0) (h0 : DataW.Trod enc Tryz.prog w 0 (fun _ => true) true 24 v0 d0 p0) (hv1 : Value.okWide Tryz.prog w r1 b1 24 v1) (h1 : DataW.Trod enc Tryz.prog w 0 (fun _ => true) true 24 v1 d1 p1) :
    Calls Tryz.prog 3 #[v0, v1] w fun e w' => e = .returned (.bool true) ∧ Below w.heap.size w w' := by
  obtain ⟨m, A, c, rfl, _, hI⟩ := open_meta hv0 h0
  obtain ⟨n, B, d, rfl, _, hJ⟩ := open_meta hv1 h1
  exact metaPuts_walk0 w hE m n A B c d hI hJ

end Go.Proofs.YtokofifecdpmfaaGreatDoor
