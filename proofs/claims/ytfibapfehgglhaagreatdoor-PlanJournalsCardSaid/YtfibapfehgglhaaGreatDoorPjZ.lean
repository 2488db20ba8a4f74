import Derived.Test.YtfibapfehgglhaaGreatDoorPjW
/-
  What a new store's plan is: the walk.
-/
namespace Go.Proofs.YtfibapfehgglhaaGreatDoor
open Go.RowKit
open Pj
set_option maxRecDepth 100000 in
theorem limitL_any (g : Int) (t L : Nat) (hg : (g = 3 ∧ t = 0 ∧ L = 48) ∨ (g = 2 ∧ t = 1 ∧ L = 24)) (w : World) : Calls Tryz.prog 25 #[.int .i64 g] w fun e w' => e = .returned (.int .i64 L) ∧ Below w.heap.size w w' := by
  rcases hg with ⟨rfl, rfl, rfl⟩ | ⟨rfl, rfl, rfl⟩
  · exact (limit3_any w).mono fun e w' h => ⟨h.1, by rw [h.2]; exact Below.refl _ _⟩
  · exact (limit2_any w).mono fun e w' h => ⟨h.1, by rw [h.2]; exact Below.refl _ _⟩
theorem Pj.itx_is (k : Nat) : ∃ nm : ByteArray, itx k 0 = .string nm ∧ itx k 1 = .int .i64 3 ∧ itx k 2 = .int .i64 0 := ⟨if k = 0 then walN else metaN, rfl, rfl, rfl⟩
theorem plan_results {fn : Func} {p t : Tmp} (h : fn.results = #[.cell p 36, .tmp t]) (tmps : Array Value) (w : World) (g : Nat) (a b c d v : Value) (hp : tmps.getD p undef = .pointer (some ⟨g, 0, none⟩)) (hv : tmps.getD t undef = v) (hg : w.heap[g]? = some (.cells #[a, b, c, d] 36 (0, 0))) :
    (results fn tmps).run Tryz.prog w = .ok (.tuple #[.agg #[a, b, c, d], v]) w := by
  subst hv
  exact results_cell_tmp h tmps w g _ #[a, b, c, d] _ (.struct (Tryz.prog.fieldsOf 36)) hp hg (by kernel_rfl) rfl (by kernel_rfl)
theorem grown_own {w w1 w2 : World} {row row2 : Option Nat} (h1 : w.grownBy w1 row) (h2 : w1.grownBy w2 row2) (hr : ∀ r, row2 = some r → w.heap.size ≤ r) : w.grownBy w2 row :=
  ⟨h2.os.trans h1.os, h2.tape.trans h1.tape, h2.output.trans h1.output, Nat.le_trans h1.size h2.size, fun k hk hne => (h2.block k (Nat.lt_of_lt_of_le hk h1.size) (fun e => Nat.lt_irrefl _ (Nat.lt_of_lt_of_le hk (hr k e.symm)))).trans (h1.block k hk hne)⟩
theorem rcells_snoc3 {x : Nat → Nat → Value} (k : Nat) : rcells 3 x k ++ rcells 3 (fun _ j => x k j) 1 = rcells 3 x (k + 1) := by
  rw [rcells_succ 3 x k]; rfl
set_option maxRecDepth 100000 in
set_option maxHeartbeats 8000000 in
theorem PlanOf_any {W : World} {base fb B N : Nat} {S : Sf.St} {w : World} (h : Runs W base fb B N S w) (hB : B ≤ 1000000) (hE : Env W) (h2 : Two S 3) (g : Int) (t L : Nat) (hg : (g = 3 ∧ t = 0 ∧ L = 48) ∨ (g = 2 ∧ t = 1 ∧ L = 24)) :
    Calls Tryz.prog 9 #[.pointer (some ⟨fb, 0, none⟩), .int .i64 g] w fun e w' => ∃ J c B2 d2, e = .returned (.tuple #[.agg #[.int .i64 g, .slice J (t * 2) c, .slice B2 0 d2, .bool false], .int .i64 0]) ∧ Row 3 itx w' J (t * 2) ∧ Below w.heap.size w w' := by
  obtain ⟨w1, hw1⟩ : ∃ w1, w1 = w.alloc (.cells #[.int .i64 0, .slice none 0 0, .slice none 0 0, .bool false] 36) := ⟨_, rfl⟩
  obtain ⟨b1, hb1⟩ : ∃ b1, b1 = w.heap.size := ⟨_, rfl⟩
  have hs1 : Below w.heap.size w w1 := by rw [hw1]; exact (Below.refl _ _).alloc (Nat.le_refl _) _
  have hx1 : w1.heap[b1]? = some (.cells #[.int .i64 0, .slice none 0 0, .slice none 0 0, .bool false] 36 (0, 0)) := by rw [hw1, hb1]; exact heap_alloc_new w _
  have HB1 := Lib.hid hs1; have HX1 := Lib.hid hx1
  have HL1 : Hid (w.heap.size ≤ b1) := Lib.hid (by rw [hb1]; exact Nat.le_refl _)
  have HIG := Lib.hid (isGen_any g (by omega) w1)
  have HSC := Lib.hid (Scan_any (h.far hs1) hB hE h2)
  have HLI := Lib.hid (limitL_any g t L hg)
  have HG := Lib.hid hg
  have HW := Lib.hid (And.intro hw1 hb1)
  clear hs1 hx1 hw1 hb1 h hE h2 hg
  go_enter Tryz.func9, Tryz.ntmps9
  go_upto_region 1 with fail
  obtain ⟨hw1, hb1⟩ := HW.out
  rw [← hw1, ← hb1]
  clear hw1 hb1 HW
  go_wp2_with fail
  refine HIG.out.mono ?_; rintro e wa ⟨rfl, rfl⟩
  go_wp2_with fail
  refine HSC.out.mono ?_; rintro e w2 ⟨I, c1, B2, d2, rfl, hri, hb2⟩
  have HX2 := Lib.hid (heap_keep HX1.out hb2); have HB2 := Lib.hid (below_step HB1.out hb2); have HRI := Lib.hid hri
  clear hb2 hri HSC HIG HB1 HX1
  unfold zT
  go_upto_region 4 with fail
  obtain ⟨w3, hw3⟩ : ∃ w3, w3 = w2.alloc (.cells #[.slice none 0 0, .int .i64 0] 57) := ⟨_, rfl⟩
  have hs3 : Below w2.heap.size w2 w3 := by rw [hw3]; exact (Below.refl _ _).alloc (Nat.le_refl _) _
  obtain ⟨w4, hw4⟩ : ∃ w4, w4 = w3.alloc (.cells #[.int .i64 g, .slice none 0 0, .slice B2 0 d2, .bool false] 36) := ⟨_, rfl⟩
  obtain ⟨pb, hpb⟩ : ∃ pb, pb = w3.heap.size := ⟨_, rfl⟩
  have hs4 : Below w3.heap.size w3 w4 := by rw [hw4]; exact (Below.refl _ _).alloc (Nat.le_refl _) _
  have hx4 : w4.heap[pb]? = some (.cells #[.int .i64 g, .slice none 0 0, .slice B2 0 d2, .bool false] 36 (0, 0)) := by rw [hw4, hpb]; exact heap_alloc_new w3 _
  have HX4 := Lib.hid hx4; have HB4 := Lib.hid (below_step hs3 hs4)
  have HLP : Hid (w2.heap.size ≤ pb ∧ pb < w4.heap.size) := Lib.hid ⟨by rw [hpb]; exact hs3.size, by rw [hw4, World.size_alloc, hpb]; exact Nat.lt_succ_self _⟩
  rw [← hw3]
  have HW := Lib.hid (And.intro hw4 hpb)
  clear hw3 hs3 hw4 hpb hs4 hx4
  go_upto_region 7 with fail
  obtain ⟨hw4, hpb⟩ := HW.out
  rw [← hw4, ← hpb]
  clear hw4 hpb HW
  go_wp2_with fail
  go_loopw [13, 36] (fun _ i wq => ∃ (k : Nat) (v : Value), k ≤ 2 ∧ i = .int .i64 k ∧ wq.heap[pb]? = some (.cells #[.int .i64 g, v, .slice B2 0 d2, .bool false] 36 (0, 0)) ∧ wq.ownsRow w4.heap.size 43 3 v (t * k) (rcells 3 itx (t * k)) ∧ w4.grownBy wq (some pb)) (fun _ i _ => 2 - (intOf i).toNat)
  case atStart => exact ⟨0, _, by decide, rfl, HX4.out, World.ownsRow_nil _ _ _ _, grown_refl _ _⟩
  case round =>
    obtain ⟨k, v, hk, rfl, hpx, hown, hgw⟩ := hrel
    have hbq : Below w2.heap.size w2 wr := HB4.out.grown hgw HB4.out.size (fun r e => by obtain rfl : pb = r := Option.some.inj e; exact HLP.out.1)
    have HBQ := Lib.hid hbq; have HPX := Lib.hid hpx; have HOQ := Lib.hid hown; have HGQ := Lib.hid hgw
    have HRQ := Lib.hid (HRI.out.later hbq)
    clear hbq hpx hown hgw
    by_cases hlt : k < 2
    · have i0 : (0 : Int) ≤ (k : Int) := Int.natCast_nonneg _
      have i1 : (k : Int) < (2 : Int) := by omega
      have d1 : decide ((k : Int) < (2 : Int)) = true := decide_eq_true i1
      obtain ⟨nm, k0, k1, k2⟩ := itx_is k
      obtain ⟨ad, rfl, c0, cs⟩ := HRQ.out.at_ (Below.refl _ _) hlt
      have y0 := c0 (by decide); have y1 := cs 1 (by decide) (by decide); have y2 := cs 2 (by decide) (by decide)
      rw [k0] at y0; rw [k1] at y1; rw [k2] at y2
      have HK := Lib.hid (And.intro k0 (And.intro k1 k2))
      clear c0 cs k0 k1 k2
      obtain ⟨wi, hwi⟩ : ∃ wi, wi = wr.alloc (.cells #[.string nm, .int .i64 3, .int .i64 0] 43) := ⟨_, rfl⟩
      obtain ⟨xb, hxb⟩ : ∃ xb, xb = wr.heap.size := ⟨_, rfl⟩
      have hsi : Below wr.heap.size wr wi := by rw [hwi]; exact (Below.refl _ _).alloc (Nat.le_refl _) _
      have hxi : wi.heap[xb]? = some (.cells #[.string nm, .int .i64 3, .int .i64 0] 43 (0, 0)) := by rw [hwi, hxb]; exact heap_alloc_new wr _
      have HXI := Lib.hid hxi; have HPI := Lib.hid (heap_keep HPX.out hsi); have HOI := Lib.hid (row_far HOQ.out hsi); have HGI := Lib.hid (grown_trans HGQ.out (grown_of_below hsi))
      have HLX : Hid (pb < xb) := Lib.hid (by rw [hxb]; exact (Array.getElem?_eq_some_iff.1 HPX.out).1)
      have HW := Lib.hid (And.intro hwi hxb)
      clear hwi hxb hsi hxi
      go_upto_region 10 with fail
      obtain ⟨hwi, hxb⟩ := HW.out
      rw [← hwi, ← hxb]
      clear hwi hxb HW
      have d0 : decide ((L : Int) < 0) = false := decide_eq_false (by omega)
      refine plain_robJ [(0, some 40), (1, some 41), (2, some 42), (3, some 43), (4, some 44)] [] (fun U V => Below U.heap.size U V) (fun U => Below wi.heap.size wi U) [(0, .pointer (some ⟨xb, 2, none⟩)), (1, .int .i64 0), (2, .int .i64 g), (3, .int .i64 L), (4, .bool false)] [] 0 (by kernel_rfl) (by kernel_rfl) (by kernel_rfl) ((Below.refl _ _).drew) (fun _ _ h g => below_step h g) ?_ ?_ ?_
      · intro p hp; cases hp
      · refine ⟨⟨_, rfl, fun ν U hU hp => ?_⟩, ?_⟩
        · simp only [zr, zx]; exact zy
        refine ⟨⟨_, rfl, fun ν U hU hp => ?_⟩, ?_⟩
        · simp only [zr, zx, zv hp 0]; exact zy (h := by have h0 : U.cell? ⟨xb, 2, none⟩ = some (.int .i64 0) := cell_of_row _ _ 2 _ _ _ (heap_keep HXI.out hU); go_simp)
        refine ⟨⟨_, rfl, fun ν U hU hp => ?_⟩, ?_⟩
        · simp only [zr, zx]; exact zy
        refine ⟨⟨_, rfl, fun ν U hU hp => ?_⟩, ?_⟩
        · simp only [zr, zx, zv hp 2]
          exact zc 25 #[.int .i64 g] ((HLI.out U))
        refine ⟨⟨_, rfl, fun ν U hU hp => ?_⟩, ?_⟩
        · simp only [zr, zx, zv hp 1, zv hp 3]; exact zy
        trivial
      intro ν wj hbj hf
      simp only [zr, zx, zw hf 0, zw hf 1, zw hf 2, zw hf 3, zw hf 4]
      clear hf
      refine wpAnyT_done (by kernel_rfl) ?_ _
      refine only_mk ?_
      have hxj := heap_keep HXI.out hbj
      have z0 := cell_of_row _ _ 0 _ _ _ hxj; have z1 := cell_of_row _ _ 1 _ _ _ hxj; have z2 := cell_of_row _ _ 2 _ _ _ hxj
      simp only [List.getElem?_toArray, List.getElem?_cons_zero, List.getElem?_cons_succ] at z0 z1 z2
      have HPJ := Lib.hid (heap_keep HPI.out hbj); have HOJ := Lib.hid (row_far HOI.out hbj); have HGJ := Lib.hid (grown_trans HGI.out (grown_of_below hbj))
      have HLI2 := HLI
      clear hbj hxj HXI HPI HOI HGI HPX HOQ HGQ HBQ HRQ y0 y1 y2 d0 d1
      rcases HG.out with ⟨rfl, rfl, rfl⟩ | ⟨rfl, rfl, rfl⟩
      · go_wp2_with fail
        go_roundw
        case rel =>
          have ho := HOJ.out
          rw [Nat.zero_mul] at ho
          exact ⟨k + 1, v, by omega, by go_num, HPJ.out, by rw [Nat.zero_mul]; exact ho, HGJ.out⟩
        case measure => simp [intOf]; omega
      · obtain ⟨we, hwe⟩ : ∃ we, we = wj.alloc (.cells #[.string nm, .int .i64 3, .int .i64 0] 43) := ⟨_, rfl⟩
        obtain ⟨eb, heb⟩ : ∃ eb, eb = wj.heap.size := ⟨_, rfl⟩
        have hse : Below wj.heap.size wj we := by rw [hwe]; exact (Below.refl _ _).alloc (Nat.le_refl _) _
        have hxe : we.heap[eb]? = some (.cells #[.string nm, .int .i64 3, .int .i64 0] 43 (0, 0)) := by rw [hwe, heb]; exact heap_alloc_new wj _
        have HRE : Hid (Row 3 (fun _ j => itx k j) we (some ⟨eb, 0, none⟩) 1) := Lib.hid (row_there 3 _ we eb _ _ _ hxe (fun j hj => by
          rcases (show j = 0 ∨ j = 1 ∨ j = 2 by omega) with rfl | rfl | rfl
          · exact congrArg some HK.out.1.symm
          · exact congrArg some HK.out.2.1.symm
          · exact congrArg some HK.out.2.2.symm))
        have ho := row_far HOJ.out hse
        rw [Nat.one_mul] at ho
        have HOE := Lib.hid ho
        have HPE := Lib.hid (heap_keep HPJ.out hse); have HGE := Lib.hid (grown_trans HGJ.out (grown_of_below hse))
        have HNE : Hid (∀ (_ j : Nat), (itx k j).oneCell' = true) := Lib.hid (fun _ j => itx_one k j)
        have HZE : Hid (k + 1 ≤ 1000000 ∧ w4.heap.size ≤ we.heap.size) := Lib.hid ⟨by omega, HGE.out.size⟩
        have HWE := Lib.hid (And.intro hwe heb)
        have hpj := HPJ.out
        have yv := cell_of_row _ _ 1 _ _ _ hpj
        simp only [List.getElem?_toArray, List.getElem?_cons_zero, List.getElem?_cons_succ] at yv
        clear hwe heb hse hxe ho hpj
        go_wp2_with (at_builtin; go_must (obtain ⟨hwe, heb⟩ := HWE.out; rw [← hwe, ← heb]; clear hwe heb HWE z0 z1 z2 yv; refine wpList_append_row_at _ rfl _ _ 33 43 rfl 3 32 (.agg #[.string ByteArray.empty, .int .i64 0, .int .i64 0]) Tryz.underlying33 infoItem rfl (by decide) (by decide) w4.heap.size _ k (rcells 3 itx k) rfl HOE.out ⟨eb, 0, none⟩ 1 1 (fun _ j => itx k j) HNE.out rfl HRE.out HZE.out.1 HZE.out.2 ?_; intro v' wf h1 h2 _; rw [rcells_snoc3] at h1; obtain ⟨J, cj, rfl, -, -, -, -⟩ := own_row h1; have H1 := Lib.hid h1; have H2 := Lib.hid h2; clear h1 h2; have hpf : wf.heap[pb]? = some (.cells #[.int .i64 2, v, .slice B2 0 d2, .bool false] 36 (0, 0)) := (H2.out.block pb (Array.getElem?_eq_some_iff.1 HPE.out).1 (fun e => Nat.lt_irrefl _ (Nat.lt_of_lt_of_le HLP.out.2 (HOE.out.lt pb e.symm).1))).trans HPE.out; have yf := cell_of_row _ _ 1 _ _ _ hpf; have ff := frozen_of_row _ _ 1 _ _ hpf; simp only [List.getElem?_toArray, List.getElem?_cons_zero, List.getElem?_cons_succ] at yf; have HPF := Lib.hid hpf; clear hpf))
        go_roundw
        case rel =>
          have h1 := H1.out
          have hne : ∀ r, (Value.slice J (k + 1) cj).ownBlock = some r → w4.heap.size ≤ r := fun r e => (h1.lt r e).1
          refine ⟨k + 1, .slice J (k + 1) cj, by omega, by go_num, heap_setCell_same wf pb 1 _ _ _ HPF.out, ?_, ?_⟩
          · rw [Nat.one_mul]
            exact row_kept h1 (grown_setCell wf pb 1 _) (fun r e e2 => by
              obtain rfl : pb = r := Option.some.inj e
              exact Nat.lt_irrefl _ (Nat.lt_of_lt_of_le HLP.out.2 (hne _ e2)))
          · exact grown_trans (grown_own HGE.out H2.out (fun r e => (HOE.out.lt r e).1)) (grown_setCell wf pb 1 _)
        case measure => simp [intOf]; omega
    · obtain rfl : k = 2 := by omega
      obtain ⟨J, c, rfl, -, -, -, hrj⟩ := own_row HOQ.out
      have HRJ := Lib.hid hrj
      have hpx := HPX.out
      have y0 := cell_of_row _ _ 0 _ _ _ hpx; have y1 := cell_of_row _ _ 1 _ _ _ hpx; have y2 := cell_of_row _ _ 2 _ _ _ hpx; have y3 := cell_of_row _ _ 3 _ _ _ hpx
      have hx := heap_keep HX2.out HBQ.out
      have x0 := cell_of_row _ _ 0 _ _ _ hx; have x1 := cell_of_row _ _ 1 _ _ _ hx; have x2 := cell_of_row _ _ 2 _ _ _ hx; have x3 := cell_of_row _ _ 3 _ _ _ hx
      have f0 := frozen_of_row _ _ 0 _ _ hx; have f1 := frozen_of_row _ _ 1 _ _ hx; have f2 := frozen_of_row _ _ 2 _ _ hx; have f3 := frozen_of_row _ _ 3 _ _ hx
      simp only [List.getElem?_toArray, List.getElem?_cons_zero, List.getElem?_cons_succ] at y0 y1 y2 y3 x0 x1 x2 x3
      have HX := Lib.hid hx
      have d1 : decide ((2 : Int) < (2 : Int)) = false := rfl
      clear hx hpx hrj hk hlt
      go_wp2_with fail
      have hg4 := grown_four wr b1 (.int .i64 g) (.slice J (t * 2) c) (.slice B2 0 d2) (.bool false)
      have hlt : b1 < w4.heap.size := Nat.lt_of_lt_of_le (Array.getElem?_eq_some_iff.1 HX2.out).1 HB4.out.size
      have ho := row_kept HOQ.out hg4 (fun r e e2 => by
        obtain rfl : b1 = r := Option.some.inj e
        exact Nat.lt_irrefl _ (Nat.lt_of_lt_of_le hlt (HOQ.out.lt _ e2).1))
      obtain ⟨J2, c2, e, -, -, -, hr⟩ := own_row ho
      obtain ⟨rfl, rfl⟩ : J = J2 ∧ c = c2 := by cases e; exact ⟨rfl, rfl⟩
      have hx4 := heap_setCell_same _ b1 3 _ _ (.bool false) (heap_setCell_same _ b1 2 _ _ (.slice B2 0 d2) (heap_setCell_same _ b1 1 _ _ (.slice J (t * 2) c) (heap_setCell_same wr b1 0 _ _ (.int .i64 g) HX.out)))
      exact bodyPost_ret (plan_results rfl _ _ b1 _ _ _ _ _ rfl rfl hx4) rfl ⟨J, c, B2, d2, rfl, hr, (below_step HB2.out HBQ.out).grown hg4 (below_step HB2.out HBQ.out).size (fun r e => by obtain rfl : b1 = r := Option.some.inj e; exact HL1.out)⟩
end Go.Proofs.YtfibapfehgglhaaGreatDoor
/-
  The fixed example of the plan's laws: the walk.
-/
namespace Go.Proofs.YtfibapfehgglhaaGreatDoor
open Go.RowKit
open Pj
theorem item_same (W : World) : (Op.equalIn 10000 43 (.agg #[.string ⟨#[119, 97, 108, 45, 48, 48, 48, 48, 48, 48]⟩, .int .i64 3, .int .i64 0]) (.agg #[.string ⟨#[119, 97, 108, 45, 48, 48, 48, 48, 48, 48]⟩, .int .i64 3, .int .i64 0])).run Tryz.prog W = .ok true W := by kernel_rfl
theorem item_guard : Tryz.prog.eqGuardType Tryz.prog.depth 43 = false := by kernel_rfl
theorem addr_zero' (a : Addr) : a.add 0 = a := by cases a; rfl
set_option maxRecDepth 100000 in
set_option maxHeartbeats 8000000 in
theorem pworks_any {w : World} (hE : Env w) : Calls Tryz.prog 4 #[] w fun e w' => e = .returned (.bool true) ∧ Below w.heap.size w w' := by
  have HE := Lib.hid hE
  have HN := Lib.hid (runs_new (W := w) (Below.refl _ _) 10000 (by decide))
  clear hE
  go_enter Tryz.func4, Tryz.ntmps4
  go_wp2_with fail
  refine HN.out.mono ?_; rintro e w1 ⟨fb, rfl, hr1, hb1⟩
  have HO := Lib.hid (Open0_any hr1 HE.out (by decide) (by decide))
  clear hr1 hb1 HN
  go_wp2_with fail
  refine HO.out.mono ?_; rintro e w2 ⟨bs, S, rfl, hr2, hm2, -⟩
  have HR := Lib.hid hr2; have H2 := Lib.hid hm2.two; have HB2 := Lib.hid hr2.bel
  clear hr2 hm2 HO
  go_wp2_with fail
  refine (PlanOf_any HR.out (by decide) HE.out H2.out 2 1 24 (Or.inr ⟨rfl, rfl, rfl⟩)).mono ?_; rintro e w3 ⟨J, c, B2, d2, rfl, hrj, hb3⟩
  have HRJ := Lib.hid hrj; have HB3 := Lib.hid hb3
  clear hrj hb3
  obtain ⟨w4, hw4⟩ : ∃ w4, w4 = w3.alloc (.cells #[.int .i64 2, .slice J (1 * 2) c, .slice B2 0 d2, .bool false] 36) := ⟨_, rfl⟩
  obtain ⟨pb, hpb⟩ : ∃ pb, pb = w3.heap.size := ⟨_, rfl⟩
  have hs4 : Below w3.heap.size w3 w4 := by rw [hw4]; exact (Below.refl _ _).alloc (Nat.le_refl _) _
  have hx4 : w4.heap[pb]? = some (.cells #[.int .i64 2, .slice J (1 * 2) c, .slice B2 0 d2, .bool false] 36 (0, 0)) := by rw [hw4, hpb]; exact heap_alloc_new w3 _
  have HX4 := Lib.hid hx4; have HRJ4 := Lib.hid (HRJ.out.later hs4); have HB4 := Lib.hid (below_step HB3.out hs4)
  have HW := Lib.hid (And.intro hw4 hpb)
  clear hw4 hpb hs4 hx4 HRJ HB3
  go_upto_region 6 with fail
  obtain ⟨hw4, hpb⟩ := HW.out
  rw [← hw4, ← hpb]
  clear hw4 hpb HW
  go_wp2_with fail
  refine (PlanOf_any (HR.out.far HB4.out) (by decide) HE.out H2.out 3 0 48 (Or.inl ⟨rfl, rfl, rfl⟩)).mono ?_; rintro e w5 ⟨J2, c2, B4, d4, rfl, -, hb5⟩
  have HX5 := Lib.hid (heap_keep HX4.out hb5); have HRJ5 := Lib.hid (HRJ4.out.later hb5); have HB5 := Lib.hid (below_step HB4.out hb5)
  clear hb5 HX4 HRJ4 HB4
  obtain ⟨w6, hw6⟩ : ∃ w6, w6 = w5.alloc (.cells #[.int .i64 3, .slice J2 (0 * 2) c2, .slice B4 0 d4, .bool false] 36) := ⟨_, rfl⟩
  obtain ⟨qb, hqb⟩ : ∃ qb, qb = w5.heap.size := ⟨_, rfl⟩
  have hs6 : Below w5.heap.size w5 w6 := by rw [hw6]; exact (Below.refl _ _).alloc (Nat.le_refl _) _
  have hx6 : w6.heap[qb]? = some (.cells #[.int .i64 3, .slice J2 (0 * 2) c2, .slice B4 0 d4, .bool false] 36 (0, 0)) := by rw [hw6, hqb]; exact heap_alloc_new w5 _
  have HY6 := Lib.hid hx6; have HX6 := Lib.hid (heap_keep HX5.out hs6); have HRJ6 := Lib.hid (HRJ5.out.later hs6); have HB6 := Lib.hid (below_step HB5.out hs6)
  have HW := Lib.hid (And.intro hw6 hqb)
  have HJ := Lib.hid (fun U => Journal_any 2 U); have HJR := Lib.hid (fun U => jRead_any (journal 2) (by rw [journal_size]; decide) U); have HJE := Lib.hid (fun U => jRead_any ByteArray.empty (by decide) U)
  rw [jread_own 2 (by decide)] at HJR
  rw [jread_empty] at HJE
  clear hw6 hqb hs6 hx6 HX5 HRJ5 HB5
  generalize journal 2 = jn at *
  go_upto_region 7 with fail
  obtain ⟨hw6, hqb⟩ := HW.out
  rw [← hw6, ← hqb]
  clear hw6 hqb HW
  go_wp2_with fail
  refine (HJ.out w6).mono ?_; rintro e w7 ⟨rfl, hb7⟩
  have HY7 := Lib.hid (heap_keep HY6.out hb7); have HX7 := Lib.hid (heap_keep HX6.out hb7); have HRJ7 := Lib.hid (HRJ6.out.later hb7); have HB7 := Lib.hid (below_step HB6.out hb7)
  clear hb7 HY6 HX6 HRJ6 HB6 HJ
  go_wp2_with fail
  refine (HJR.out w7).mono ?_; rintro e w8 ⟨rfl, hb8⟩
  have HY8 := Lib.hid (heap_keep HY7.out hb8); have HX8 := Lib.hid (heap_keep HX7.out hb8); have HRJ8 := Lib.hid (HRJ7.out.later hb8); have HB8 := Lib.hid (below_step HB7.out hb8)
  clear hb8 HY7 HX7 HRJ7 HB7 HJR
  go_upto_region 8 with fail
  go_wp2_with fail
  refine (HJE.out w8).mono ?_; rintro e w9 ⟨rfl, hb9⟩
  have HY9 := Lib.hid (heap_keep HY8.out hb9); have HX9 := Lib.hid (heap_keep HX8.out hb9); have HRJ9 := Lib.hid (HRJ8.out.later hb9); have HB9 := Lib.hid (below_step HB8.out hb9)
  clear hb9 HY8 HX8 HRJ8 HB8 HJE
  have hrd := (HR.out.far HB9.out).read metaN (by decide)
  rw [H2.out.readM] at hrd
  have hbw := below_step HB2.out HB9.out
  have HT1 := Lib.hid (fun U (hU : Below w9.heap.size w9 U) => TurnM_any 3 1 (by decide) (by decide) U (HE.out.later (below_step hbw hU)))
  have HT2 := Lib.hid (fun U (hU : Below w9.heap.size w9 U) => TurnM_any 1 3 (by decide) (by decide) U (HE.out.later (below_step hbw hU)))
  have HT3 := Lib.hid (fun U (hU : Below w9.heap.size w9 U) => TurnO_any ByteArray.empty 3 (by decide) U (HE.out.later (below_step hbw hU)))
  have HRD := Lib.hid hrd; have HBW := Lib.hid hbw
  have hmn : metaN = ⟨#[109, 101, 116, 97]⟩ := rfl
  have hon : otherN = ⟨#[111, 116, 104, 101, 114]⟩ := rfl
  rw [hmn] at HRD HT1 HT2
  rw [hon] at HT3
  clear hrd hbw hmn hon
  generalize mB 3 = m3 at HRD HT1 HT2
  generalize mB 1 = m1 at HT1 HT2
  go_wp2_with fail
  refine HRD.out.mono ?_; rintro e w10 ⟨rfl, hb10⟩
  have HB10 := Lib.hid hb10
  clear hb10 HRD
  go_wp2_with fail
  refine (HT1.out w10 HB10.out).mono ?_; rintro e w11 ⟨rfl, hb11⟩
  have HB11 := Lib.hid (below_step HB10.out hb11)
  clear hb11 HB10 HT1
  go_wp2_with fail
  refine (HT2.out w11 HB11.out).mono ?_; rintro e w12 ⟨rfl, hb12⟩
  have HB12 := Lib.hid (below_step HB11.out hb12)
  clear hb12 HB11 HT2
  go_wp2_with fail
  refine (HT3.out w12 HB12.out).mono ?_; rintro e w13 ⟨rfl, hb13⟩
  have hb := below_step HB12.out hb13
  have hy := heap_keep HY9.out hb; have hx := heap_keep HX9.out hb
  have HBZ := Lib.hid (below_step HBW.out hb)
  obtain ⟨ad, rfl, c0, cs⟩ := HRJ9.out.at_ hb (show 0 < 1 * 2 by decide)
  obtain ⟨ad2, e2, g0, -⟩ := HRJ9.out.at_ hb (show 1 < 1 * 2 by decide)
  obtain rfl : ad = ad2 := Option.some.inj e2
  have k0 := c0 (by decide); have k1 := cs 1 (by decide) (by decide); have k2 := cs 2 (by decide) (by decide); have k3 := g0 (by decide)
  have x1 := cell_of_row _ _ 1 _ _ _ hx; have y1 := cell_of_row _ _ 1 _ _ _ hy
  simp only [List.getElem?_toArray, List.getElem?_cons_zero, List.getElem?_cons_succ] at x1 y1
  have hms : (m3.toList == m3.toList) = true := beq_self_eq_true _
  have hel := item_same
  have heg := item_guard
  have z0 : w13.cell? ad = some (.string ⟨#[119, 97, 108, 45, 48, 48, 48, 48, 48, 48]⟩) := by rw [← addr_zero' ad]; exact k0
  have z1 : w13.cell? ⟨ad.block, ad.off + 1, none⟩ = some (.int .i64 3) := by
    have e := k1
    rw [Nat.zero_mul, addr_zero'] at e
    exact e
  have z2 : w13.cell? ⟨ad.block, ad.off + 2, none⟩ = some (.int .i64 0) := by
    have e := k2
    rw [Nat.zero_mul, addr_zero'] at e
    exact e
  have z3 : w13.cell? ⟨ad.block, ad.off + 3, none⟩ = some (.string ⟨#[109, 101, 116, 97]⟩) := k3
  clear hb hb13 hy hx c0 cs g0 e2 HRJ9 HY9 HX9 HT3 HB12 HBW HB9 k0 k1 k2 k3
  go_wp2_with fail
  go_ret
  exact ⟨rfl, HBZ.out⟩
end Go.Proofs.YtfibapfehgglhaaGreatDoor
/-
  Journals tell their generations: the walk of the law.
-/
namespace Go.Proofs.YtfibapfehgglhaaGreatDoor
open Go.RowKit
open Pj
set_option maxRecDepth 100000 in
set_option maxHeartbeats 4000000 in
theorem planJournals_walk (W : World) (hE : Env W) (g : Int) (hg : (Lit.int .u8 g).wf = true) (s : ByteArray) (_hs : s.size ≤ maxLen) :
    Calls Tryz.prog 3 #[.int .u8 g, .string s] W fun e W' => e = .returned (.bool true) ∧ Below W.heap.size W W' := by
  have hr : 0 ≤ g ∧ g ≤ 255 := by simpa [Lit.wf, IntKind.min, IntKind.max, IntKind.signed, IntKind.bits] using hg
  have HK := Lib.hid (pworks_any hE)
  have HR := Lib.hid hr
  have HJ := Lib.hid (fun U => Journal_any g U); have HJR := Lib.hid (fun U => jRead_any (journal g) (by rw [journal_size]; decide) U)
  have hw : IntKind.i64.wrap g = g := by rw [IntKind.wrap_i64] <;> omega
  clear hE
  go_enter Tryz.func3, Tryz.ntmps3
  go_wp2_with fail
  refine HK.out.mono ?_; rintro e w1 ⟨rfl, hb1⟩
  have HB1 := Lib.hid hb1
  clear hb1 HK
  by_cases h300 : s.size ≤ 300
  · have d1 : decide ((300 : Int) < (s.size : Int)) = false := decide_eq_false (by omega)
    have HJM := Lib.hid (fun U => jRead_any (journal g ++ s) (by rw [ByteArray.size_append, journal_size]; unfold maxLen; omega) U)
    obtain ⟨⟨ja, jb⟩, hab⟩ : ∃ p, p = jread (journal g) := ⟨_, rfl⟩
    obtain ⟨⟨jc, jd⟩, hcd⟩ : ∃ p, p = jread (journal g ++ s) := ⟨_, rfl⟩
    rw [← hab] at HJR
    rw [← hcd] at HJM
    rw [jread_own g hr] at hab
    rw [jread_more g hr s] at hcd
    have HAB := Lib.hid hab; have HCD := Lib.hid hcd
    clear hab hcd
    have hz : (journal g ++ s).size = 10 + s.size := by rw [ByteArray.size_append, journal_size]
    have hsum : ¬ 9223372036854775807 < (journal g).size + s.size := by rw [journal_size]; omega
    have hjs : ∃ js, js = journal g ++ s := ⟨_, rfl⟩
    obtain ⟨js, hjs⟩ := hjs
    rw [← hjs] at HJM
    have hjs2 := hjs.symm
    clear hjs hz
    generalize journal g = jn at *
    go_upto_region 6 with fail
    go_wp2_with fail
    refine (HJ.out w1).mono ?_; rintro e w2 ⟨rfl, hb2⟩
    have HB2 := Lib.hid (below_step HB1.out hb2)
    clear hb2 HB1
    go_wp2_with fail
    refine (HJR.out w2).mono ?_; rintro e w3 ⟨rfl, hb3⟩
    have HB3 := Lib.hid (below_step HB2.out hb3)
    clear hb3 HB2
    go_upto_region 7 with fail
    go_wp2_with fail
    refine (HJ.out w3).mono ?_; rintro e w4 ⟨rfl, hb4⟩
    have HB4 := Lib.hid (below_step HB3.out hb4)
    clear hb4 HB3
    go_wp2_with fail
    refine (HJM.out w4).mono ?_; rintro e w5 ⟨rfl, hb5⟩
    have HB5 := Lib.hid (below_step HB4.out hb5)
    clear hb5 HB4 HJ HJR HJM hjs2 hsum
    go_upto_region 8 with fail
    have hab := HAB.out; have hcd := HCD.out
    clear HAB HCD d1
    by_cases h3 : 3 < g.toNat
    · rw [if_pos h3] at hab hcd
      obtain ⟨rfl, rfl⟩ : ja = 0 ∧ jb = 10 := by cases hab; exact ⟨rfl, rfl⟩
      obtain ⟨rfl, rfl⟩ : jc = 0 ∧ jd = 10 := by cases hcd; exact ⟨rfl, rfl⟩
      have d3 : decide (3 < g) = true := decide_eq_true (by omega)
      clear hab hcd h3
      go_wp2_with fail
      go_ret
      exact ⟨rfl, HB5.out⟩
    · have d3 : decide (3 < g) = false := decide_eq_false (by omega)
      rw [if_neg h3] at hab hcd
      by_cases h0 : g.toNat = 0
      · rw [if_pos h0] at hab hcd
        obtain ⟨rfl, rfl⟩ : ja = 0 ∧ jb = 9 := by cases hab; exact ⟨rfl, rfl⟩
        obtain ⟨rfl, rfl⟩ : jc = 0 ∧ jd = 9 := by cases hcd; exact ⟨rfl, rfl⟩
        obtain rfl : g = 0 := by omega
        clear hab hcd h3 h0
        go_wp2_with fail
        go_ret
        exact ⟨rfl, HB5.out⟩
      · rw [if_neg h0] at hab hcd
        obtain ⟨rfl, rfl⟩ : ja = g.toNat ∧ jb = 0 := by cases hab; exact ⟨rfl, rfl⟩
        have d0 : (g == 0) = false := by simpa using (show g ≠ 0 by omega)
        have hgn : ((g.toNat : Nat) : Int) = g := by omega
        have hem := isEmpty_eq s
        by_cases hz : s.size = 0
        · rw [if_pos hz] at hcd
          obtain ⟨rfl, rfl⟩ : jc = g.toNat ∧ jd = 0 := by cases hcd; exact ⟨rfl, rfl⟩
          rw [decide_eq_true hz] at hem
          rw [hgn]
          clear hab hcd h3 h0 hz hgn
          go_wp2_with fail
          go_ret
          exact ⟨rfl, HB5.out⟩
        · rw [if_neg hz] at hcd
          obtain ⟨rfl, rfl⟩ : jc = 0 ∧ jd = 9 := by cases hcd; exact ⟨rfl, rfl⟩
          rw [decide_eq_false hz] at hem
          rw [hgn]
          clear hab hcd h3 h0 hz hgn
          go_wp2_with fail
          go_ret
          exact ⟨rfl, HB5.out⟩
  · have d1 : decide ((300 : Int) < (s.size : Int)) = true := decide_eq_true (by omega)
    go_wp2_with fail
    go_ret
    exact ⟨rfl, HB1.out⟩
end Go.Proofs.YtfibapfehgglhaaGreatDoor
