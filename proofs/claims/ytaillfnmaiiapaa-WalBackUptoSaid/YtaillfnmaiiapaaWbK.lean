/-
  WalBack: the walk.
-/
import Derived.Test.YtaillfnmaiiapaaWbJ
namespace Go.Proofs.Ytaillfnmaiiapaa
open Go.RowKit
open Go.ChangeShapes Go.WideShapes
/-- a segment that is whole, and more behind it -/
theorem seg_more {w : World} {C : Option Addr} {n : Nat} {R : Nat → RowAt} (h : RowsIn w C n R) {g : Int} (hg : 1 ≤ g ∧ g ≤ 3) (hok : Wa.rowsOk g (wrow R) n) :
    ((Wa.putR g (Wa.rows g (wrow R) n).2 (recF (jq R n)) (jn R n)).2.2 = 0 ∨ (Wa.putR g (Wa.rows g (wrow R) n).2 (recF (jq R n)) (jn R n)).2.2 = 7) ∧
    ((Wa.putR g (Wa.rows g (wrow R) n).2 (recF (jq R n)) (jn R n)).2.2 = 0 → (Wa.read ((Wa.hd g ++ (Wa.rows g (wrow R) n).1) ++ (Wa.putR g (Wa.rows g (wrow R) n).2 (recF (jq R n)) (jn R n)).1)).err = 0 ∧ (Wa.read ((Wa.hd g ++ (Wa.rows g (wrow R) n).1) ++ (Wa.putR g (Wa.rows g (wrow R) n).2 (recF (jq R n)) (jn R n)).1)).torn = false ∧
      (Wa.read ((Wa.hd g ++ (Wa.rows g (wrow R) n).1) ++ (Wa.putR g (Wa.rows g (wrow R) n).2 (recF (jq R n)) (jn R n)).1)).recs.length = 2 * jn R n) := by
  have hj : (Wa.join (wrow R) n).length ≤ 40 := by rw [join_len]; exact h.few
  obtain ⟨P, pi, hp⟩ := Wa.pieces (g := g) (R := wrow R) (fun i j hj => h.words i j hj) n (by omega) hok
  have hfew := hp.few
  have hwords : ∀ i, i < jn R n → Wa.Words (recF (jq R n) i) := (jq_all (R := R) (p := fun x => Wa.Words x.r) n).2 (fun i hi j hj => h.words i j hj)
  have hv : ∀ i, i < jn R n → Wa.valid (recF (jq R n) i) g = 0 := fun i hi => Wa.join_valid n hok _ (by rw [join_jq]; exact List.mem_map.2 ⟨i, List.mem_range.2 hi, rfl⟩)
  have hfw := h.few
  refine ⟨Wa.putR_many hg _ hv, fun h0 => ?_⟩
  have := Wa.read_more hg hp (f := recF (jq R n)) (n := jn R n) (by omega) hwords h0
  rw [this]
  refine ⟨rfl, rfl, ?_⟩
  show (Wa.join (wrow R) n ++ _).length = _
  rw [List.length_append, join_len, List.length_map, List.length_range]
  omega
theorem int_nat {g : Int} (hg : 1 ≤ g ∧ g ≤ 3) : ((g.toNat : Nat) : Int) = g := by omega
set_option maxRecDepth 100000 in
set_option maxHeartbeats 8000000 in
theorem walBack_walk {H : Type} {enc : TypeId × Value → H} {r1 : Reach} {b1 : Nat} {v1 : Value} {d1 : DataW H} {p1 : List MemPlace} (w : World)
    (g : Int) (_wg : (Lit.int .i64 g).wf = true)
    (o1 : Value.okWide Try.prog w r1 b1 22 v1) (k1 : DataW.Trod enc Try.prog w 0 (fun _ => true) true 22 v1 d1 p1) (hd1 : Rows.uptoBulk d1 ≤ 1048576) :
    Calls Try.prog 3 #[.int .i64 g, v1] w fun e w' => e = .returned (.bool true) ∧ Below w.heap.size w w' := by
  obtain ⟨C, n, c, R, rfl, hn, hB, hbulk⟩ := open_rows o1 k1
  have HR := Lib.hid hB; have HBULK := Lib.hid (Nat.le_trans hbulk hd1)
  clear o1 k1 hB hbulk hd1
  go_enter Try.func3, Try.ntmps3
  go_wp2_with fail
  refine (works_any _).mono ?_; rintro e w1 ⟨rfl, hb1⟩
  have HB1 := Lib.hid hb1
  clear hb1
  by_cases hn8 : n ≤ 8
  · have d1 : decide ((n : Int) ≤ 8) = true := decide_eq_true (by omega)
    have HJ := Lib.hid (fun U (hU : Below w.heap.size w U) => joined_any C n c R U (HR.out.later hU) (by omega) HBULK.out)
    go_wp2_with fail
    refine (HJ.out _ HB1.out).mono ?_; rintro e w2 ⟨A2, c2, rfl, hr2, hb2⟩
    have HR2 := Lib.hid hr2; have HB2 := Lib.hid (below_step HB1.out hb2)
    clear hb2 HB1 hr2
    go_wp2_with fail
    refine (FewRecs_any A2 (jn R n) c2 (by have := HBULK.out; unfold maxLen; omega) (jq R n) _ HR2.out).mono ?_; rintro e w3 ⟨rfl, hb3⟩
    have HB3 := Lib.hid (below_step HB2.out hb3)
    clear hb3 HB2 HR2
    obtain ⟨f1, hf1⟩ : ∃ f1, f1 = fewR (jq R n) (jn R n) := ⟨_, rfl⟩
    rw [← hf1]
    have HF1 := Lib.hid hf1
    clear hf1
    cases f1 with
    | false =>
      go_wp2_with fail
      go_ret
      exact ⟨rfl, HB3.out⟩
    | true =>
      have hin := HR.out.in_ HF1.out.symm
      have HIN := Lib.hid hin; have HF := Lib.hid HF1.out
      have HSG := Lib.hid (fun U (hU : Below w.heap.size w U) => segment_any g C n c R hn8 U (hin.later hU))
      clear HF1 hin d1
      have d1 : decide ((n : Int) ≤ 8) = true := decide_eq_true (by omega)
      have HN8 := Lib.hid hn8
      clear hn8
      go_wp2_with fail
      refine (HSG.out _ HB3.out).mono ?_; rintro e w4 ⟨s, E, C2, p, rfl, hb4, hs⟩
      have HB4 := Lib.hid (below_step HB3.out hb4)
      have HS := Lib.hid hs
      clear hb4 hs HSG HB3
      cases p with
      | false =>
        go_wp2_with fail
        go_ret
        exact ⟨rfl, HB4.out⟩
      | true =>
        obtain ⟨es, hga, hoa, -, -⟩ := HS.out rfl
        have rs := segr HIN.out hga hoa
        have zs := segz HIN.out hoa
        have hmore := seg_more HIN.out hga hoa
        have hz1 : (Wa.hd g ++ (Wa.rows g (wrow R) n).1).size = 10 + (Wa.rows g (wrow R) n).1.size := by rw [ByteArray.size_append, Wa.hd_size]
        obtain ⟨kf1, kf2, kf3⟩ := rows_keys HIN.out (Nat.le_refl n) hoa
        rw [← es] at rs zs hmore hz1
        obtain ⟨X, hX⟩ : ∃ X, X = Wa.read s := ⟨_, rfl⟩
        have HRS := Lib.hid (fun U => lawRead_any s (by have := HN8.out; omega) U)
        unfold LawRead at HRS
        rw [← hX] at HRS rs
        have xe : X.err = 0 := by rw [rs]
        have xr : X.recs = (List.range (jn R n)).map (recF (jq R n)) := by rw [rs]
        have xk : X.keys = (Wa.rows g (wrow R) n).2 := by rw [rs]
        have xt : X.torn = false := by rw [rs]
        have xu : (X.used : Int) = (s.size : Int) := by rw [rs, hz1]
        have xg : (X.gen : Int) = g := by rw [rs]; exact int_nat hga
        have xf : X.flags = 0 := by rw [rs]
        have hpz := Wa.putR_size g (Wa.rows g (wrow R) n).2 (recF (jq R n)) (jn R n)
        rw [← xk] at hmore hpz kf1 kf2
        have HXR := Lib.hid xr; have HXE := Lib.hid xe; have HXT := Lib.hid xt; have HXU := Lib.hid xu; have HXG := Lib.hid xg; have HXF := Lib.hid xf; have HMO := Lib.hid hmore; have HKF := Lib.hid (And.intro kf1 kf2); have HZS := Lib.hid (And.intro zs hpz)
        have hxl : X.recs.length = jn R n := by rw [xr]; simp
        have HXL := Lib.hid hxl
        clear es rs zs hmore hz1 hoa hga HS hX xe xr xk xt xu xg xf hpz kf1 kf2 kf3 hxl
        go_wp2_with fail
        refine (HRS.out _).mono ?_; rintro e w5 ⟨A5, c5, B5, d5, q5, rfl, hs5, hb5⟩
        rw [HXE.out, HXT.out, HXU.out, HXG.out, HXF.out]
        obtain ⟨w6, hw6⟩ : ∃ w6, w6 = w5.alloc (.cells #[.int .i64 0, .slice A5 X.recs.length c5, .int .i64 (s.size : Int), .bool false, .int .i64 g, .slice B5 X.keys.length d5] 34) := ⟨_, rfl⟩
        have hb6 : Below w5.heap.size w5 w6 := by rw [hw6]; exact (Below.refl _ _).alloc (Nat.le_refl _) _
        have hx6 : w6.heap[w5.heap.size]? = some (.cells #[.int .i64 0, .slice A5 X.recs.length c5, .int .i64 (s.size : Int), .bool false, .int .i64 g, .slice B5 X.keys.length d5] 34 (0, 0)) := by rw [hw6]; exact heap_alloc_new w5 _
        obtain ⟨bx, hbx⟩ : ∃ bx, bx = w5.heap.size := ⟨_, rfl⟩
        rw [← hbx] at hx6
        have HX6 := Lib.hid hx6; have HS6 := Lib.hid (hs5.later hb6); have HB6 := Lib.hid (below_step HB4.out (below_step hb5 hb6))
        clear hs5 hb5 hb6 hx6 HRS
        go_upto_region 11 with fail
        rw [← hw6, ← hbx]
        clear hw6 hbx
        refine plain_T (fun U => Below w6.heap.size w6 U) [] (by kernel_rfl) ?_
        have HD : Hid (Below w6.heap.size w6 w6.drew) := Lib.hid (Below.refl _ _).drew
        generalize w6.drew = wd at HD ⊢
        have n0 : ((s.size : Int) != (s.size : Int)) = false := by simp
        have n1 : (g != g) = false := by simp
        refine wpAnyT_pick (S := (fun U => Below w6.heap.size w6 U)) (by kernel_rfl) Only.panic Only.keepsIn (w := wd) HD.out [0, 1, 2, 3, 4, 5, 6, 7, 8, 9, 10, 11, 12, 13, 14, 15, 16, 17, 18, 19, 20, 21, 22, 23, 24, 25, 26, 27, 28] 4 _ _ (by kernel_rfl) ?_
        refine PickT.value (d := some 48) (.int .i64 0) rfl rfl (by kernel_rfl) (fun U hU => (by go_simp)) ?_
        refine PickT.value (d := some 49) (.bool false) rfl rfl (by kernel_rfl) (fun U hU => (by go_simp)) ?_
        refine PickT.value (d := some 50) (.bool false) rfl rfl (by kernel_rfl) (fun U hU => (by go_simp)) ?_
        refine PickT.value (d := some 51) (.pointer (some ⟨bx, 3, none⟩)) rfl rfl (by kernel_rfl) (fun U hU => (by go_simp)) ?_
        refine PickT.value (d := some 52) (.bool false) rfl rfl (by kernel_rfl) (fun U hU => (by have h0 : U.cell? ⟨bx, 3, none⟩ = some (.bool false) := cell_of_row _ _ _ _ _ _ (heap_keep HX6.out hU); go_simp)) ?_
        refine PickT.value (d := some 53) (.bool false) rfl rfl (by kernel_rfl) (fun U hU => (by go_simp)) ?_
        refine PickT.value (d := some 54) (.bool false) rfl rfl (by kernel_rfl) (fun U hU => (by go_simp)) ?_
        refine PickT.value (d := some 55) (.pointer (some ⟨bx, 2, none⟩)) rfl rfl (by kernel_rfl) (fun U hU => (by go_simp)) ?_
        refine PickT.value (d := some 56) (.int .i64 (s.size : Int)) rfl rfl (by kernel_rfl) (fun U hU => (by have h0 : U.cell? ⟨bx, 2, none⟩ = some (.int .i64 (s.size : Int)) := cell_of_row _ _ _ _ _ _ (heap_keep HX6.out hU); go_simp)) ?_
        refine PickT.value (d := some 57) (.string s) rfl rfl (by kernel_rfl) (fun U hU => (by go_simp)) ?_
        refine PickT.value (d := some 58) (.int .i64 (s.size : Int)) rfl rfl (by kernel_rfl) (fun U hU => (by go_simp)) ?_
        refine PickT.value (d := some 59) (.bool false) rfl rfl (by kernel_rfl) (fun U hU => (by go_simp)) ?_
        refine PickT.value (d := some 60) (.bool false) rfl rfl (by kernel_rfl) (fun U hU => (by go_simp)) ?_
        refine PickT.value (d := some 61) (.bool false) rfl rfl (by kernel_rfl) (fun U hU => (by go_simp)) ?_
        refine PickT.value (d := some 62) (.pointer (some ⟨bx, 4, none⟩)) rfl rfl (by kernel_rfl) (fun U hU => (by go_simp)) ?_
        refine PickT.value (d := some 63) (.pointer (some ⟨bx, 4, none⟩)) rfl rfl (by kernel_rfl) (fun U hU => (by go_simp)) ?_
        refine PickT.value (d := some 64) (.int .i64 g) rfl rfl (by kernel_rfl) (fun U hU => (by have h0 : U.cell? ⟨bx, 4, none⟩ = some (.int .i64 g) := cell_of_row _ _ _ _ _ _ (heap_keep HX6.out hU); go_simp)) ?_
        refine PickT.value (d := some 65) (.int .i64 g) rfl rfl (by kernel_rfl) (fun U hU => (by go_simp)) ?_
        refine PickT.value (d := some 66) (.bool false) rfl rfl (by kernel_rfl) (fun U hU => (by go_simp)) ?_
        refine PickT.value (d := some 67) (.bool false) rfl rfl (by kernel_rfl) (fun U hU => (by go_simp)) ?_
        refine PickT.value (d := some 68) (.bool false) rfl rfl (by kernel_rfl) (fun U hU => (by go_simp)) ?_
        refine PickT.value (d := some 69) (.pointer (some ⟨bx, 0, none⟩)) rfl rfl (by kernel_rfl) (fun U hU => (by go_simp)) ?_
        refine PickT.value (d := some 70) (.int .i64 0) rfl rfl (by kernel_rfl) (fun U hU => (by have h0 : U.cell? ⟨bx, 0, none⟩ = some (.int .i64 0) := cell_of_row _ _ _ _ _ _ (heap_keep HX6.out hU); go_simp)) ?_
        refine PickT.value (d := some 71) (.bool false) rfl rfl (by kernel_rfl) (fun U hU => (by go_simp)) ?_
        refine PickT.value (d := some 72) (.bool false) rfl rfl (by kernel_rfl) (fun U hU => (by go_simp)) ?_
        refine PickT.value (d := some 73) (.bool false) rfl rfl (by kernel_rfl) (fun U hU => (by go_simp)) ?_
        refine PickT.value (d := some 74) (.pointer (some ⟨bx, 1, none⟩)) rfl rfl (by kernel_rfl) (fun U hU => (by go_simp)) ?_
        refine PickT.value (d := some 75) (.slice A5 X.recs.length c5) rfl rfl (by kernel_rfl) (fun U hU => (by have h0 : U.cell? ⟨bx, 1, none⟩ = some (.slice A5 X.recs.length c5) := cell_of_row _ _ _ _ _ _ (heap_keep HX6.out hU); go_simp)) ?_
        refine PickT.value (d := some 76) (.slice C n c) rfl rfl (by kernel_rfl) (fun U hU => (by go_simp)) ?_
        simp only [PickT, Act.put, List.setIfInBounds_toArray, List.set_cons_zero, List.set_cons_succ]
        refine wpAnyT_one (i := 29) (by kernel_rfl) rfl (by kernel_rfl) ?_
        intro K hK
        unfold Oper.wp
        go_simp
        refine (HJ.out _ (below_step HB6.out HD.out)).mono ?_; rintro e v3 ⟨A3, c3, rfl, hr3, hb3⟩
        have H3 := Lib.hid (below_step HD.out hb3)
        have hsr := rRecs_any A5 A3 X.recs.length (jn R n) c5 c3 q5 (jq R n) v3 (HS6.out.recs.later H3.out) (hr3.in_ HF.out.symm) (by have := HXL.out; have := HIN.out.few; omega) (HS6.out.list.symm.trans HXR.out)
        have HSR := Lib.hid hsr
        clear hb3 hr3 hsr
        refine hK _ _ (fun _ => H3.out) ?_
        clear hK K
        refine wpAnyT_one (i := 30) (by kernel_rfl) rfl (by kernel_rfl) ?_
        intro K hK
        unfold Oper.wp
        go_simp
        refine HSR.out.mono ?_; rintro e v4 ⟨rfl, hb4⟩
        have H4 := Lib.hid (below_step H3.out hb4)
        clear hb4 HSR
        refine hK _ _ (fun _ => H4.out) ?_
        clear hK K
        refine wpAnyT_pick (S := (fun U => Below w6.heap.size w6 U)) (by kernel_rfl) Only.panic Only.keepsIn (w := v4) H4.out [31, 32] 0 _ _ (by kernel_rfl) ?_
        refine PickT.value (d := some 79) (.bool false) rfl rfl (by kernel_rfl) (fun U hU => (by go_simp)) ?_
        refine PickT.value (d := some 80) (.bool false) rfl rfl (by kernel_rfl) (fun U hU => (by go_simp)) ?_
        simp only [PickT, Act.put, List.setIfInBounds_toArray, List.set_cons_zero, List.set_cons_succ]
        refine wpAnyT_done (by kernel_rfl) ?_ _
        refine only_mk ?_
        have hx7 := heap_keep HX6.out H4.out
        have HS7 := Lib.hid (HS6.out.later H4.out); have HB7 := Lib.hid (below_step HB6.out H4.out)
        have HX7 := Lib.hid hx7
        clear hx7 HS6 HX6 HB6 HD H3 H4 n0 n1
        generalize v4 = w7 at *
        have hput := fun (A3 : Option Addr) (c3 : Nat) U (hU : Below w7.heap.size w7 U) (hr : RecsRaw U A3 (jn R n) (jq R n)) => lawPut_any g X.keys (by have := HKF.out.1; omega) HKF.out.2 B5 d5 HS7.out.none_ A3 (jn R n) c3 (jq R n) (by have := HIN.out.few; omega) U (HS7.out.keys.later hU) (hr.in_ HF.out.symm)
        have hmo := HMO.out; have hzs := HZS.out
        obtain ⟨P, hP⟩ : ∃ P, P = Wa.putR g X.keys (recF (jq R n)) (jn R n) := ⟨_, rfl⟩
        unfold LawPut at hput
        rw [← hP] at hmo hzs
        simp only [← hP] at hput
        clear hP HMO HZS HXT HXU HXG HXF
        obtain ⟨t, K2, er2⟩ := P
        simp only at hmo hzs hput
        have HMO := Lib.hid hmo; have HZS := Lib.hid hzs; have HPUT := Lib.hid hput
        clear hmo hzs hput
        go_upto_region 13 with fail
        refine plain_T_cut (fun U => Below w7.heap.size w7 U) [] (fun a0 a2 w2 => ∃ (A3 : Option Addr) (c3 : Nat) (A4 : Option Addr) (c4 b : Nat), Below w7.heap.size w7 w2 ∧
          a2 = puts a0 [(some 82, .pointer (some ⟨bx, 4, none⟩)), (some 83, .agg #[.int .i64 g, .slice B5 X.keys.length d5]), (some 84, .slice C n c), (some 85, .slice A3 (jn R n) c3), (some 86, .tuple #[.string t, .agg #[.int .i64 g, .slice A4 K2.length c4], .int .i64 er2]), (some 81, .tuple #[.string t, .agg #[.int .i64 g, .slice A4 K2.length c4], .int .i64 er2]), (some 87, .string t), (some 88, .agg #[.int .i64 g, .slice A4 K2.length c4]), (some 89, .int .i64 er2), (some 14, .pointer (some ⟨b, 0, none⟩)), (some 13, .string t), (some 15, .int .i64 er2)]) (by kernel_rfl) ?_ ?_
        · have HD : Hid (Below w7.heap.size w7 w7.drew) := Lib.hid (Below.refl _ _).drew
          generalize w7.drew = wd at HD ⊢
          refine wpAnyT_pick (S := (fun U => Below w7.heap.size w7 U)) (by kernel_rfl) Only.panic Only.keepsIn (w := wd) HD.out [0, 1, 2] 10 _ _ (by kernel_rfl) ?_
          refine PickT.value (d := some 82) (.pointer (some ⟨bx, 4, none⟩)) rfl rfl (by kernel_rfl) (fun U hU => (by go_simp)) ?_
          refine PickT.value (d := some 83) (.agg #[.int .i64 g, .slice B5 X.keys.length d5]) rfl rfl (by kernel_rfl) (fun U hU => (by have hy := heap_keep HX7.out hU; have h0 : U.cell? ⟨bx, 4, none⟩ = some (.int .i64 g) := cell_of_row _ _ _ _ _ _ hy; have h1 : U.cell? ⟨bx, 5, none⟩ = some (.slice B5 X.keys.length d5) := cell_of_row _ _ _ _ _ _ hy; go_simp)) ?_
          refine PickT.value (d := some 84) (.slice C n c) rfl rfl (by kernel_rfl) (fun U hU => (by go_simp)) ?_
          simp only [PickT, Act.put, List.setIfInBounds_toArray, List.set_cons_zero, List.set_cons_succ]
          refine wpAnyT_two (i := 3) (j := 9) (by kernel_rfl) rfl rfl (by kernel_rfl) (by kernel_rfl) ?_ ?_
          · intro K0 hK; unfold Oper.wp
            go_simp
            refine (HJ.out _ (below_step HB7.out HD.out)).mono ?_; rintro e v3 ⟨A3, c3, rfl, hr3, hb3⟩
            have h3 := below_step HD.out hb3
            refine hK _ _ (fun _ => h3) ?_
            clear hK K0
            refine wpAnyT_two (i := 4) (j := 9) (by kernel_rfl) rfl rfl (by kernel_rfl) (by kernel_rfl) ?_ ?_
            · intro K0 hK; unfold Oper.wp
              go_simp
              refine (HPUT.out A3 c3 _ h3 (hr3)).mono ?_; rintro e v4 ⟨A4, c4, rfl, -, -, hb4⟩
              have h4 := below_step h3 hb4
              refine hK _ _ (fun _ => h4) ?_
              clear hK K0
              refine wpAnyT_pick (S := (fun U => Below w7.heap.size w7 U)) (by kernel_rfl) Only.panic Only.keepsIn (w := v4) h4 [5, 6, 7, 8] 4 _ _ (by kernel_rfl) ?_
              refine PickT.value (d := some 81) (.tuple #[.string t, .agg #[.int .i64 g, .slice A4 K2.length c4], .int .i64 er2]) rfl rfl (by kernel_rfl) (fun U hU => (by go_simp)) ?_
              refine PickT.value (d := some 87) (.string t) rfl rfl (by kernel_rfl) (fun U hU => (by go_simp)) ?_
              refine PickT.value (d := some 88) (.agg #[.int .i64 g, .slice A4 K2.length c4]) rfl rfl (by kernel_rfl) (fun U hU => (by go_simp)) ?_
              refine PickT.value (d := some 89) (.int .i64 er2) rfl rfl (by kernel_rfl) (fun U hU => (by go_simp)) ?_
              simp only [PickT, Act.put, List.setIfInBounds_toArray, List.set_cons_zero, List.set_cons_succ]
              refine wpAnyT_one (i := 9) (by kernel_rfl) rfl (by kernel_rfl) ?_
              intro K0 hK; unfold Oper.wp
              go_simp
              obtain ⟨b, hbe⟩ : ∃ b, b = v4.heap.size := ⟨_, rfl⟩
              obtain ⟨v9, hv⟩ : ∃ v9, v9 = v4.alloc (.cells #[.int .i64 0, .slice none 0 0] 32) := ⟨_, rfl⟩
              have hz : Below v4.heap.size v4 v9 := by rw [hv]; exact (Below.refl _ _).alloc (Nat.le_refl _) _
              have hc : v9.heap[b]? = some (.cells #[.int .i64 0, .slice none 0 0] 32 (0, 0)) := by rw [hv, hbe]; exact heap_alloc_new v4 _
              have hlb : w7.heap.size ≤ b := by rw [hbe]; exact (h4).size
              have h9 := below_step h4 hz
              rw [← hbe, ← hv]
              refine hK _ _ (fun _ => h9) ?_
              clear hK K0 hv hbe
              refine wpAnyT_pick (S := (fun U => Below w7.heap.size w7 U)) (by kernel_rfl) Only.panic Only.keepsIn (w := v9) h9 [10] 2 _ _ (by kernel_rfl) ?_
              refine PickT.value (d := some 13) (.string t) rfl rfl (by kernel_rfl) (fun U hU => (by go_simp)) ?_
              simp only [PickT, Act.put, List.setIfInBounds_toArray, List.set_cons_zero, List.set_cons_succ]
              have q0 := cell_of_row _ _ 0 _ _ _ hc; have q1 := cell_of_row _ _ 1 _ _ _ hc
              have f0 := frozen_of_row _ _ 0 _ _ hc; have f1 := frozen_of_row _ _ 1 _ _ hc
              simp only [List.getElem?_toArray, List.getElem?_cons_zero, List.getElem?_cons_succ] at q0 q1
              refine wpAnyT_one (i := 11) (by kernel_rfl) rfl (by kernel_rfl) ?_
              intro K hK
              unfold Oper.wp
              go_simp
              have hg3 := grown_trans (grown_setCell v9 b 0 (.int .i64 g)) (grown_setCell (v9.setCell ⟨b, 0, none⟩ (.int .i64 g)) b 1 (.slice A4 K2.length c4))
              have hbr := Below.grown h9 hg3 (h9).size (fun r e => by obtain rfl : b = r := Option.some.inj e; exact hlb)
              refine hK _ _ (fun _ => hbr) ?_
              clear hK K
              refine wpAnyT_pick (S := (fun U => Below w7.heap.size w7 U)) (by kernel_rfl) Only.panic Only.keepsIn (w := _) hbr [12] 0 _ _ (by kernel_rfl) ?_
              refine PickT.value (d := some 15) (.int .i64 er2) rfl rfl (by kernel_rfl) (fun U hU => (by go_simp)) ?_
              simp only [PickT, Act.put, List.setIfInBounds_toArray, List.set_cons_zero, List.set_cons_succ]
              refine wpAnyT_done (by kernel_rfl) ?_ _
              refine only_mk ?_
              exact ⟨A3, c3, A4, c4, b, hbr, by kernel_rfl⟩
            · intro K0 hK; unfold Oper.wp
              go_simp
              obtain ⟨b, hbe⟩ : ∃ b, b = v3.heap.size := ⟨_, rfl⟩
              obtain ⟨v9, hv⟩ : ∃ v9, v9 = v3.alloc (.cells #[.int .i64 0, .slice none 0 0] 32) := ⟨_, rfl⟩
              have hz : Below v3.heap.size v3 v9 := by rw [hv]; exact (Below.refl _ _).alloc (Nat.le_refl _) _
              have hc : v9.heap[b]? = some (.cells #[.int .i64 0, .slice none 0 0] 32 (0, 0)) := by rw [hv, hbe]; exact heap_alloc_new v3 _
              have hlb : w7.heap.size ≤ b := by rw [hbe]; exact (h3).size
              have h9 := below_step h3 hz
              rw [← hbe, ← hv]
              refine hK _ _ (fun _ => h9) ?_
              clear hK K0 hv hbe
              refine wpAnyT_one (i := 4) (by kernel_rfl) rfl (by kernel_rfl) ?_
              intro K0 hK; unfold Oper.wp
              go_simp
              refine (HPUT.out A3 c3 _ h9 (hr3.later hz)).mono ?_; rintro e v4 ⟨A4, c4, rfl, -, -, hb4⟩
              have h4 := below_step h9 hb4
              refine hK _ _ (fun _ => h4) ?_
              clear hK K0
              refine wpAnyT_pick (S := (fun U => Below w7.heap.size w7 U)) (by kernel_rfl) Only.panic Only.keepsIn (w := v4) h4 [5, 6, 7, 8] 3 _ _ (by kernel_rfl) ?_
              refine PickT.value (d := some 81) (.tuple #[.string t, .agg #[.int .i64 g, .slice A4 K2.length c4], .int .i64 er2]) rfl rfl (by kernel_rfl) (fun U hU => (by go_simp)) ?_
              refine PickT.value (d := some 87) (.string t) rfl rfl (by kernel_rfl) (fun U hU => (by go_simp)) ?_
              refine PickT.value (d := some 88) (.agg #[.int .i64 g, .slice A4 K2.length c4]) rfl rfl (by kernel_rfl) (fun U hU => (by go_simp)) ?_
              refine PickT.value (d := some 89) (.int .i64 er2) rfl rfl (by kernel_rfl) (fun U hU => (by go_simp)) ?_
              simp only [PickT, Act.put, List.setIfInBounds_toArray, List.set_cons_zero, List.set_cons_succ]
              have hc9 := heap_keep hc hb4
              refine wpAnyT_pick (S := (fun U => Below w7.heap.size w7 U)) (by kernel_rfl) Only.panic Only.keepsIn (w := v4) h4 [10] 2 _ _ (by kernel_rfl) ?_
              refine PickT.value (d := some 13) (.string t) rfl rfl (by kernel_rfl) (fun U hU => (by go_simp)) ?_
              simp only [PickT, Act.put, List.setIfInBounds_toArray, List.set_cons_zero, List.set_cons_succ]
              have q0 := cell_of_row _ _ 0 _ _ _ hc9; have q1 := cell_of_row _ _ 1 _ _ _ hc9
              have f0 := frozen_of_row _ _ 0 _ _ hc9; have f1 := frozen_of_row _ _ 1 _ _ hc9
              simp only [List.getElem?_toArray, List.getElem?_cons_zero, List.getElem?_cons_succ] at q0 q1
              refine wpAnyT_one (i := 11) (by kernel_rfl) rfl (by kernel_rfl) ?_
              intro K hK
              unfold Oper.wp
              go_simp
              have hg3 := grown_trans (grown_setCell v4 b 0 (.int .i64 g)) (grown_setCell (v4.setCell ⟨b, 0, none⟩ (.int .i64 g)) b 1 (.slice A4 K2.length c4))
              have hbr := Below.grown h4 hg3 (h4).size (fun r e => by obtain rfl : b = r := Option.some.inj e; exact hlb)
              refine hK _ _ (fun _ => hbr) ?_
              clear hK K
              refine wpAnyT_pick (S := (fun U => Below w7.heap.size w7 U)) (by kernel_rfl) Only.panic Only.keepsIn (w := _) hbr [12] 0 _ _ (by kernel_rfl) ?_
              refine PickT.value (d := some 15) (.int .i64 er2) rfl rfl (by kernel_rfl) (fun U hU => (by go_simp)) ?_
              simp only [PickT, Act.put, List.setIfInBounds_toArray, List.set_cons_zero, List.set_cons_succ]
              refine wpAnyT_done (by kernel_rfl) ?_ _
              refine only_mk ?_
              exact ⟨A3, c3, A4, c4, b, hbr, by kernel_rfl⟩
          · intro K0 hK; unfold Oper.wp
            go_simp
            obtain ⟨b, hbe⟩ : ∃ b, b = wd.heap.size := ⟨_, rfl⟩
            obtain ⟨v9, hv⟩ : ∃ v9, v9 = wd.alloc (.cells #[.int .i64 0, .slice none 0 0] 32) := ⟨_, rfl⟩
            have hz : Below wd.heap.size wd v9 := by rw [hv]; exact (Below.refl _ _).alloc (Nat.le_refl _) _
            have hc : v9.heap[b]? = some (.cells #[.int .i64 0, .slice none 0 0] 32 (0, 0)) := by rw [hv, hbe]; exact heap_alloc_new wd _
            have hlb : w7.heap.size ≤ b := by rw [hbe]; exact (HD.out).size
            have h9 := below_step HD.out hz
            rw [← hbe, ← hv]
            refine hK _ _ (fun _ => h9) ?_
            clear hK K0 hv hbe
            refine wpAnyT_one (i := 3) (by kernel_rfl) rfl (by kernel_rfl) ?_
            intro K0 hK; unfold Oper.wp
            go_simp
            refine (HJ.out _ (below_step HB7.out h9)).mono ?_; rintro e v3 ⟨A3, c3, rfl, hr3, hb3⟩
            have h3 := below_step h9 hb3
            refine hK _ _ (fun _ => h3) ?_
            clear hK K0
            refine wpAnyT_one (i := 4) (by kernel_rfl) rfl (by kernel_rfl) ?_
            intro K0 hK; unfold Oper.wp
            go_simp
            refine (HPUT.out A3 c3 _ h3 (hr3)).mono ?_; rintro e v4 ⟨A4, c4, rfl, -, -, hb4⟩
            have h4 := below_step h3 hb4
            refine hK _ _ (fun _ => h4) ?_
            clear hK K0
            refine wpAnyT_pick (S := (fun U => Below w7.heap.size w7 U)) (by kernel_rfl) Only.panic Only.keepsIn (w := v4) h4 [5, 6, 7, 8] 3 _ _ (by kernel_rfl) ?_
            refine PickT.value (d := some 81) (.tuple #[.string t, .agg #[.int .i64 g, .slice A4 K2.length c4], .int .i64 er2]) rfl rfl (by kernel_rfl) (fun U hU => (by go_simp)) ?_
            refine PickT.value (d := some 87) (.string t) rfl rfl (by kernel_rfl) (fun U hU => (by go_simp)) ?_
            refine PickT.value (d := some 88) (.agg #[.int .i64 g, .slice A4 K2.length c4]) rfl rfl (by kernel_rfl) (fun U hU => (by go_simp)) ?_
            refine PickT.value (d := some 89) (.int .i64 er2) rfl rfl (by kernel_rfl) (fun U hU => (by go_simp)) ?_
            simp only [PickT, Act.put, List.setIfInBounds_toArray, List.set_cons_zero, List.set_cons_succ]
            have hc9 := heap_keep (heap_keep hc hb3) hb4
            refine wpAnyT_pick (S := (fun U => Below w7.heap.size w7 U)) (by kernel_rfl) Only.panic Only.keepsIn (w := v4) h4 [10] 2 _ _ (by kernel_rfl) ?_
            refine PickT.value (d := some 13) (.string t) rfl rfl (by kernel_rfl) (fun U hU => (by go_simp)) ?_
            simp only [PickT, Act.put, List.setIfInBounds_toArray, List.set_cons_zero, List.set_cons_succ]
            have q0 := cell_of_row _ _ 0 _ _ _ hc9; have q1 := cell_of_row _ _ 1 _ _ _ hc9
            have f0 := frozen_of_row _ _ 0 _ _ hc9; have f1 := frozen_of_row _ _ 1 _ _ hc9
            simp only [List.getElem?_toArray, List.getElem?_cons_zero, List.getElem?_cons_succ] at q0 q1
            refine wpAnyT_one (i := 11) (by kernel_rfl) rfl (by kernel_rfl) ?_
            intro K hK
            unfold Oper.wp
            go_simp
            have hg3 := grown_trans (grown_setCell v4 b 0 (.int .i64 g)) (grown_setCell (v4.setCell ⟨b, 0, none⟩ (.int .i64 g)) b 1 (.slice A4 K2.length c4))
            have hbr := Below.grown h4 hg3 (h4).size (fun r e => by obtain rfl : b = r := Option.some.inj e; exact hlb)
            refine hK _ _ (fun _ => hbr) ?_
            clear hK K
            refine wpAnyT_pick (S := (fun U => Below w7.heap.size w7 U)) (by kernel_rfl) Only.panic Only.keepsIn (w := _) hbr [12] 0 _ _ (by kernel_rfl) ?_
            refine PickT.value (d := some 15) (.int .i64 er2) rfl rfl (by kernel_rfl) (fun U hU => (by go_simp)) ?_
            simp only [PickT, Act.put, List.setIfInBounds_toArray, List.set_cons_zero, List.set_cons_succ]
            refine wpAnyT_done (by kernel_rfl) ?_ _
            refine only_mk ?_
            exact ⟨A3, c3, A4, c4, b, hbr, by kernel_rfl⟩
        rintro a2 W9 ⟨A8, c8, A9, c9, b, hb9, rfl⟩
        simp only [puts, Act.put, List.setIfInBounds_toArray, List.set_cons_zero, List.set_cons_succ]
        refine then_mk ?_
        have HB9 := Lib.hid (below_step HB7.out hb9); have HX9 := Lib.hid (heap_keep HX7.out hb9)
        obtain ⟨z1, z2⟩ := HZS.out
        have n40 := HIN.out.few
        have n1 : ¬ 9223372036854775807 < s.size + t.size := by have := HN8.out; omega
        have HRT := Lib.hid (fun U => lawRead_any (s ++ t) (by have := HN8.out; rw [ByteArray.size_append]; omega) U)
        unfold LawRead at HRT
        have hmo := HMO.out
        obtain ⟨Y, hY⟩ : ∃ Y, Y = Wa.read (s ++ t) := ⟨_, rfl⟩
        rw [← hY] at HRT hmo
        have HMO := Lib.hid hmo
        clear hb9 hY hmo HB7 HX7 HPUT z1 z2 n40
        go_wp2_with fail
        refine (HRT.out _).mono ?_; rintro e wa ⟨Aa, ca, Ba, da, qa, rfl, -, hba⟩
        obtain ⟨wb, hwb⟩ : ∃ wb, wb = wa.alloc (.cells #[.int .i64 (Y.flags : Int), .slice Aa Y.recs.length ca, .int .i64 (Y.used : Int), .bool Y.torn, .int .i64 (Y.gen : Int), .slice Ba Y.keys.length da] 34) := ⟨_, rfl⟩
        have hbb : Below wa.heap.size wa wb := by rw [hwb]; exact (Below.refl _ _).alloc (Nat.le_refl _) _
        have hyb : wb.heap[wa.heap.size]? = some (.cells #[.int .i64 (Y.flags : Int), .slice Aa Y.recs.length ca, .int .i64 (Y.used : Int), .bool Y.torn, .int .i64 (Y.gen : Int), .slice Ba Y.keys.length da] 34 (0, 0)) := by rw [hwb]; exact heap_alloc_new wa _
        obtain ⟨by_, hby⟩ : ∃ by_, by_ = wa.heap.size := ⟨_, rfl⟩
        rw [← hby] at hyb
        have hab := below_step hba hbb
        have hxb := heap_keep HX9.out hab
        have HBB := Lib.hid (below_step HB9.out hab)
        have x1 := cell_of_row _ _ 1 _ _ _ hxb; have y1 := cell_of_row _ _ 1 _ _ _ hyb; have y3 := cell_of_row _ _ 3 _ _ _ hyb
        simp only [List.getElem?_toArray, List.getElem?_cons_zero, List.getElem?_cons_succ] at x1 y1 y3
        clear hba hbb hyb hab hxb HRT HB9 HX9
        obtain ⟨hm1, hm2⟩ := HMO.out
        rcases hm1 with h0 | h7
        · obtain ⟨m1, m2, m3⟩ := hm2 h0
          subst h0
          have xl := HXL.out
          have xn := HIN.out.few
          rw [m1]
          rw [m2] at y3 hwb ⊢
          have c3 : decide ((Y.recs.length : Int) = 2 * (X.recs.length : Int)) = true := by simp; omega
          have c4 : ((Y.recs.length : Int) == 2 * (X.recs.length : Int)) = true := by simp; omega
          have xn2 : X.recs.length ≤ 40 := by omega
          clear m1 m2 m3 hm2 xl xn
          go_upto_region 15 with fail
          rw [← hwb, ← hby]
          clear hwb hby
          go_wp2_with fail
          go_ret
          exact ⟨rfl, HBB.out⟩
        · subst h7
          clear hm2
          go_upto_region 15 with fail
          rw [← hwb, ← hby]
          clear hwb hby
          go_wp2_with fail
          go_ret
          exact ⟨rfl, HBB.out⟩
  · have d1 : decide ((n : Int) ≤ 8) = false := decide_eq_false (by omega)
    go_wp2_with fail
    go_ret
    exact ⟨rfl, HB1.out⟩
end Go.Proofs.Ytaillfnmaiiapaa
