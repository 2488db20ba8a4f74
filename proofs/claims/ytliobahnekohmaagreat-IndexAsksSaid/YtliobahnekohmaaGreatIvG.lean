/-
  IndexAsks: the walk.
-/
import Derived.Test.YtliobahnekohmaaGreatIvF
namespace Go.Proofs.YtliobahnekohmaaGreat
open Go.RowKit
open Go.ChangeShapes Go.WideShapes Go.Deep
section
variable {H : Type} {enc : TypeId × Value → H} {w : World} {spare : Nat → Bool} {held : Bool}
set_option maxRecDepth 100000 in
theorem mat_of_trod {base fuel : Nat} {cs : List Value} {x : DataW H × List MemPlace} (h : DataW.trod enc Tryz.prog w base spare held fuel 55 cs = some x) :
    ∃ m : Mat, cs = [.int .i64 m.k, .string m.n, .string m.v] ∧ m.n.size ≤ maxLen ∧ m.v.size ≤ maxLen := by
  obtain ⟨xs, k, hk, hxy, hlen, hxl, hf⟩ := DataW.trod_struct Tryz.underlying55 h
  have hc : Tryz.prog.cellsOf 55 = 3 := by kernel_rfl
  rw [hc] at hlen
  match xs, hxl, cs, hlen with
  | [y0, y1, y2], _, [v0, v1, v2], _ =>
    have g0 := hf 0 _ rfl
    have g1 := hf 1 _ rfl
    have g2 := hf 2 _ rfl
    have e0 : Tryz.prog.cellsOf 3 = 1 := by kernel_rfl
    have e1 : Tryz.prog.cellsOf 9 = 1 := by kernel_rfl
    simp [e0, e1] at g0 g1 g2
    obtain ⟨a, ha, _⟩ := DataW.trod_int Tryz.underlying3 g0
    obtain ⟨b, hb, hbs⟩ := text_of_trod Tryz.underlying9 g1
    obtain ⟨c, hcc, hcs⟩ := text_of_trod Tryz.underlying9 g2
    exact ⟨⟨a, b, c⟩, by rw [show v0 = .int .i64 a from (List.cons.inj ha).1, hb, hcc], hbs, hcs⟩
set_option maxRecDepth 100000 in
theorem open_mats {r : Reach} {b0 : Nat} {v : Value} {d : DataW H} {p : List MemPlace} (hv : Value.okWide Tryz.prog w r b0 38 v) (h : DataW.Trod enc Tryz.prog w 0 spare held 38 v d p) :
    ∃ (A : Option Addr) (n c : Nat) (m : Nat → Mat), v = .slice A n c ∧ n ≤ c ∧ c ≤ maxLen ∧ (A = none → n = 0 ∧ c = 0) ∧ (∀ i, i < n → (m i).n.size ≤ maxLen ∧ (m i).v.size ≤ maxLen) ∧ Row 3 (mx m) w A n := by
  obtain ⟨A, n, c, rfl⟩ := okWide_slice Tryz.underlying38 hv
  obtain ⟨fuel, hf⟩ := h
  rcases open_slice Tryz.underlying38 hf with ⟨hcs, _⟩ | ⟨a, len, cap, m, n', D, Pl, hcs, _, hl, hm, hmm, _, hi⟩
  · simp [Value.cells] at hcs
    obtain ⟨rfl, rfl, rfl⟩ := hcs
    exact ⟨none, 0, 0, fun _ => ⟨0, ByteArray.empty, ByteArray.empty⟩, rfl, Nat.le_refl _, by simp, fun _ => ⟨rfl, rfl⟩, fun i hi => absurd hi (by omega), fun h => absurd h (by omega)⟩
  · simp [Value.cells] at hcs
    obtain ⟨rfl, rfl, rfl⟩ := hcs
    have hc3 : Tryz.prog.cellsOf 55 = 3 := by kernel_rfl
    have hlm : n ≤ m := by rw [hmm]; split <;> omega
    have each : ∀ i, i < m → ∃ q : Mat, (∀ j, j < 3 → w.cell? (a.add (i * 3 + j)) = some (if j = 0 then .int .i64 q.k else if j = 1 then .string q.n else .string q.v)) ∧ q.n.size ≤ maxLen ∧ q.v.size ≤ maxLen := fun i him => by
      obtain ⟨cs', h1, h2⟩ := hi i him
      rw [hc3] at h1
      obtain ⟨_, hlen, hcell⟩ := World.cells?_some h1
      obtain ⟨q, rfl, s1, s2⟩ := mat_of_trod h2
      refine ⟨q, fun j hj => ?_, s1, s2⟩
      have e := hcell j (by omega)
      rw [add_add] at e
      rcases (show j = 0 ∨ j = 1 ∨ j = 2 by omega) with rfl | rfl | rfl <;> simpa using e
    have : Inhabited Mat := ⟨⟨0, ByteArray.empty, ByteArray.empty⟩⟩
    obtain ⟨q, hq⟩ := choose_lt each
    refine ⟨some a, n, c, q, rfl, hl, hm, (fun h => by cases h), fun i hin => (hq i (by omega)).2, fun hn => ⟨a, rfl, ?_, fun i hin j hj => ?_⟩⟩
    · have := block_lt_of_cell ((hq 0 (by omega)).1 0 (by omega))
      rwa [addr_block] at this
    · exact (hq i (by omega)).1 j hj
end
set_option maxRecDepth 100000 in
set_option maxHeartbeats 8000000 in
theorem indexAsks_walk {H : Type} {enc : TypeId × Value → H} {r0 : Reach} {b0 : Nat} {v0 : Value} {d0 : DataW H} {p0 : List MemPlace} {r1 : Reach} {b1 : Nat} {v1 : Value} {d1 : DataW H} {p1 : List MemPlace} {r2 : Reach} {b2 : Nat} {v2 : Value} {d2 : DataW H} {p2 : List MemPlace} (w : World)
    (o0 : Value.okWide Tryz.prog w r0 b0 22 v0) (k0 : DataW.Trod enc Tryz.prog w 0 (fun _ => true) true 22 v0 d0 p0)
    (o1 : Value.okWide Tryz.prog w r1 b1 37 v1) (k1 : DataW.Trod enc Tryz.prog w 0 (fun _ => true) true 37 v1 d1 p1)
    (o2 : Value.okWide Tryz.prog w r2 b2 38 v2) (k2 : DataW.Trod enc Tryz.prog w 0 (fun _ => true) true 38 v2 d2 p2) :
    Calls Tryz.prog 4 #[v0, v1, v2] w fun e w' => e = .returned (.bool true) ∧ Below w.heap.size w w' := by
  obtain ⟨A, n, c, q, rfl, hn, -, hA⟩ := open_ents o0 k0
  obtain ⟨x, rfl, -, -⟩ := open_lab o1 k1
  obtain ⟨B, km, cm, mt, rfl, hkc, hcm, -, -, hB⟩ := open_mats o2 k2
  obtain ⟨x1, x2⟩ := x
  simp only
  clear o0 k0 o1 k1 o2 k2
  have hkm : km ≤ maxLen := Nat.le_trans hkc hcm
  obtain ⟨wa, hwa⟩ : ∃ wa, wa = w.alloc (.cells #[.string x1, .string x2] 37) := ⟨_, rfl⟩
  have hba : Below w.heap.size w wa := by rw [hwa]; exact (Below.refl _ _).alloc (Nat.le_refl _) _
  have hx : wa.heap[w.heap.size]? = some (.cells #[.string x1, .string x2] 37 (0, 0)) := by rw [hwa]; exact heap_alloc_new w _
  have HA := Lib.hid hA; have HX := Lib.hid hx; have HBA := Lib.hid hba; have HM := Lib.hid (hB.later hba)
  have HF := Lib.hid (fun U (hU : Below wa.heap.size wa U) => few_any A n c hn q U ((HA.out.later HBA.out).later hU))
  have HF2 := Lib.hid (fun U (hU : Below wa.heap.size wa U) => MFew_any B km cm hkm mt U (HM.out.later hU))
  have HDONE : Hid (∀ U, Below wa.heap.size wa U → Below w.heap.size w U) := Lib.hid (fun U hU => HBA.out.trans (hU.mono HBA.out.size))
  clear hA hB hx hba
  go_enter Tryz.func4, Tryz.ntmps4
  go_upto_region 1 with fail
  rw [← hwa]
  clear hwa
  go_wp2_with fail
  refine (works_any _).mono ?_; rintro e w1 ⟨rfl, hb1⟩
  have HB1 := Lib.hid hb1
  clear hb1
  go_wp2_with fail
  refine (HF.out _ HB1.out).mono ?_; rintro e w2 ⟨rfl, hb2⟩
  have HB2 := Lib.hid (below_step HB1.out hb2)
  clear hb2 HB1 HF
  obtain ⟨f1, hf1⟩ : ∃ f1, f1 = fewR q n := ⟨_, rfl⟩
  rw [← hf1]
  have HFW := Lib.hid hf1
  clear hf1
  cases f1 with
  | false =>
    go_wp2_with fail
    go_ret
    exact ⟨rfl, HDONE.out _ HB2.out⟩
  | true =>
    go_wp2_with fail
    refine (HF2.out _ HB2.out).mono ?_; rintro e w3 ⟨rfl, hb3⟩
    have HB3 := Lib.hid (below_step HB2.out hb3)
    clear hb3 HB2 HF2
    obtain ⟨f2, hf2⟩ : ∃ f2, f2 = La.few (Ma.lab mt) km := ⟨_, rfl⟩
    rw [← hf2]
    have HFV := Lib.hid hf2
    clear hf2
    cases f2 with
    | false =>
      go_wp2_with fail
      go_ret
      exact ⟨rfl, HDONE.out _ HB3.out⟩
    | true =>
      have hin := ((HA.out.in_ HFW.out.symm).later HBA.out).later HB3.out
      have hn30 := (fewR_yes HFW.out.symm).1
      have hkm10 := (La.few_yes HFV.out.symm).1
      have hk1 : km ≤ 1000000 := by omega
      have HIN := Lib.hid hin
      have HM3 := Lib.hid (HM.out.later HB3.out)
      have HX3 := Lib.hid (heap_keep HX.out HB3.out)
      have hsl := syms_le hin hn30
      have HSY := Lib.hid (Symbols_any A n c q w3 hin)
      have HOF := Lib.hid (fun U (hU : Below w3.heap.size w3 U) => Of_any12 A n c q U (HIN.out.later hU))
      clear hin HFW HFV HA HM HX
      go_wp2_with fail
      refine HSY.out.mono ?_; rintro e w4 ⟨S4, d4, rfl, hs4, hb4⟩
      have HS4 := Lib.hid hs4.row; have HB4 := Lib.hid hb4
      clear hs4 hb4 HSY
      generalize hSS : Ix.syms (entL q n) = SS at *
      have HSS := Lib.hid hSS
      clear hSS
      go_wp2_with fail
      refine (HOF.out w4 HB4.out).mono ?_; rintro e w5 ⟨C5, d5, rfl, hi5, hb5⟩
      have HRS := Lib.hid (rSymbols_any C5 n d5 q w5 hi5 hn30)
      rw [HSS.out] at HRS
      have HB5 := Lib.hid (below_step HB4.out hb5); have HS5 := Lib.hid (HS4.out.later hb5)
      clear hi5 hb5 HS4 HB4
      go_wp2_with fail
      refine HRS.out.mono ?_; rintro e w6 ⟨T6, d6, rfl, ht6, hb6⟩
      have HB6 := Lib.hid (below_step HB5.out hb6); have HS6 := Lib.hid (HS5.out.later hb6); have HT6 := Lib.hid ht6.row
      have u0 := cell_of_row _ _ 0 _ _ _ (heap_keep HX3.out HB6.out); have u1 := cell_of_row _ _ 1 _ _ _ (heap_keep HX3.out HB6.out)
      simp only [List.getElem?_toArray, List.getElem?_cons_zero, List.getElem?_cons_succ] at u0 u1
      clear ht6 hb6 HRS HS5 HB5
      have HPO := Lib.hid (Postings_any A n c q (x1, x2) w6 (HIN.out.later HB6.out))
      go_wp2_with fail
      refine HPO.out.mono ?_; rintro e w7 ⟨v7, rfl, ho7, hb7⟩
      have HB7 := Lib.hid (below_step HB6.out hb7); have HS7 := Lib.hid (HS6.out.later hb7); have HT7 := Lib.hid (HT6.out.later hb7)
      have hpl := Ma.sel_length (hasE q (x1, x2)) n
      generalize hPP : Ma.sel (hasE q (x1, x2)) n = PP at *
      have HPP := Lib.hid hPP
      obtain ⟨P7, c7, rfl, hr7⟩ := nat_row ho7
      have HR7 := Lib.hid hr7
      clear ho7 hr7 hb7 HPO HS6 HT6 HB6 u0 u1 hPP
      have HAK := Lib.hid (Ask_any A n c q B km cm hk1 mt w7 (HIN.out.later HB7.out) (HM3.out.later HB7.out))
      go_wp2_with fail
      refine HAK.out.mono ?_; rintro e w8 ⟨v8, rfl, ho8, hb8⟩
      have HB8 := Lib.hid (below_step HB7.out hb8); have HS8 := Lib.hid (HS7.out.later hb8); have HT8 := Lib.hid (HT7.out.later hb8); have HR8 := Lib.hid (HR7.out.later hb8)
      have hql := Ma.sel_length (fun i => Ma.all mt km (La.at_ (q i).e.l) (q i).e.l.length) n
      generalize hQQ : Ma.sel (fun i => Ma.all mt km (La.at_ (q i).e.l) (q i).e.l.length) n = QQ at *
      have HQQ := Lib.hid hQQ
      obtain ⟨P8, c8, rfl, hr8⟩ := nat_row ho8
      have HQ8 := Lib.hid hr8
      clear ho8 hr8 hb8 HAK HS7 HT7 HB7 HR7 hQQ
      have u0 := cell_of_row _ _ 0 _ _ _ (heap_keep HX3.out HB8.out); have u1 := cell_of_row _ _ 1 _ _ _ (heap_keep HX3.out HB8.out)
      simp only [List.getElem?_toArray, List.getElem?_cons_zero, List.getElem?_cons_succ] at u0 u1
      have HU0 := Lib.hid u0; have HU1 := Lib.hid u1
      have HOF8 := Lib.hid (fun U (hU : Below w8.heap.size w8 U) => HOF.out U (below_step HB8.out hU))
      have hp6 : PP.length ≤ 1000000 := by omega
      have hq6 : QQ.length ≤ 1000000 := by omega
      have hs6 : SS.length ≤ 1000000 := by omega
      have HTX := Lib.hid (fun U (hU : Below w8.heap.size w8 U) => rTexts_any S4 T6 d4 d6 SS hs6 U (HS8.out.later hU) (HT8.out.later hU))
      have HRP := Lib.hid (fun U (hU : Below w8.heap.size w8 U) P c' (hr : Row 1 (pcx PP) U P PP.length) => rRow_any P7 P PP.length c7 c' hp6 (fun j => ((PP.getD j 0 : Nat) : Int)) U (HR8.out.later hU) hr)
      have HRQ := Lib.hid (fun U (hU : Below w8.heap.size w8 U) P c' (hr : Row 1 (pcx QQ) U P QQ.length) => rRow_any P8 P QQ.length c8 c' hq6 (fun j => ((QQ.getD j 0 : Nat) : Int)) U (HQ8.out.later hU) hr)
      have HMU := Lib.hid (fun U (hU : Below w8.heap.size w8 U) => HM3.out.later (below_step HB8.out hU))
      clear u0 u1 hp6 hq6 hs6 HOF HS8 HT8 HR8 HQ8 HM3 HX3 HIN hsl hpl hql
      go_upto_region 11 with fail
      refine plain_robJ [(0, some 36), (1, some 37), (2, some 38), (3, some 39), (4, some 40), (5, some 41), (6, some 42), (7, some 43), (8, some 44), (9, some 45), (10, some 46), (11, some 47), (12, some 48), (13, some 49), (14, some 50), (15, some 51), (16, some 52), (17, some 53), (18, some 54), (19, some 55), (20, some 56), (21, some 57), (22, some 6)] [] (fun U V => Below U.heap.size U V) (fun U => Below w8.heap.size w8 U) [(0, .bool true), (1, .bool true), (2, .slice S4 SS.length d4), (3, .slice T6 SS.length d6), (4, .bool true), (5, .bool true), (6, .bool true), (7, .slice P7 PP.length c7), (8, .slice A n c), (10, .agg #[.string x1, .string x2]), (12, .bool true), (13, .bool true), (14, .bool true), (15, .slice P8 QQ.length c8), (16, .slice A n c), (18, .slice B km cm), (20, .bool true), (21, .bool true), (22, .bool true)] [(9, (fun v W => ∃ C d, v = .slice C n d ∧ EntsIn W C n q : Value → World → Prop)), (11, (fun v W => ∃ P c', v = .slice P PP.length c' ∧ Row 1 (pcx PP) W P PP.length : Value → World → Prop)), (17, (fun v W => ∃ C d, v = .slice C n d ∧ EntsIn W C n q : Value → World → Prop)), (19, (fun v W => ∃ P c', v = .slice P QQ.length c' ∧ Row 1 (pcx QQ) W P QQ.length : Value → World → Prop))] 0 (by kernel_rfl) (by kernel_rfl) (by kernel_rfl) ((Below.refl _ _).drew) (fun U V h hb => h.trans (hb.mono h.size)) ?_ ?_ ?_
      · intro p hp
        simp only [List.mem_cons, List.not_mem_nil, or_false] at hp
        rcases hp with rfl | rfl | rfl | rfl
        · exact fun v U V h hb => by obtain ⟨C, d, e, hi⟩ := h; exact ⟨C, d, e, hi.later hb⟩
        · exact fun v U V h hb => by obtain ⟨P, d, e, hi⟩ := h; exact ⟨P, d, e, hi.later hb⟩
        · exact fun v U V h hb => by obtain ⟨C, d, e, hi⟩ := h; exact ⟨C, d, e, hi.later hb⟩
        · exact fun v U V h hb => by obtain ⟨P, d, e, hi⟩ := h; exact ⟨P, d, e, hi.later hb⟩
      · refine ⟨⟨_, rfl, fun ν U hU hp => ?_⟩, ?_⟩
        · simp only [putsν, Act.put, List.setIfInBounds_toArray, List.set_cons_zero, List.set_cons_succ]
          exact Yld.value (.bool true) U (by kernel_rfl) (by go_simp) ⟨Below.refl _ _, Fx.fixed rfl rfl⟩
        refine ⟨⟨_, rfl, fun ν U hU hp => ?_⟩, ?_⟩
        · simp only [putsν, Act.put, List.setIfInBounds_toArray, List.set_cons_zero, List.set_cons_succ]
          have e0 := (hp 0 (by kernel_rfl) (by kernel_rfl)).val _ rfl
          simp only [e0]
          exact Yld.value (.bool true) U (by kernel_rfl) (by go_simp) ⟨Below.refl _ _, Fx.fixed rfl rfl⟩
        refine ⟨⟨_, rfl, fun ν U hU hp => ?_⟩, ?_⟩
        · simp only [putsν, Act.put, List.setIfInBounds_toArray, List.set_cons_zero, List.set_cons_succ]
          have e1 := (hp 1 (by kernel_rfl) (by kernel_rfl)).val _ rfl
          simp only [e1]
          exact Yld.value (.slice S4 SS.length d4) U (by kernel_rfl) (by go_simp) ⟨Below.refl _ _, Fx.fixed rfl rfl⟩
        refine ⟨⟨_, rfl, fun ν U hU hp => ?_⟩, ?_⟩
        · simp only [putsν, Act.put, List.setIfInBounds_toArray, List.set_cons_zero, List.set_cons_succ]
          have e1 := (hp 1 (by kernel_rfl) (by kernel_rfl)).val _ rfl
          simp only [e1]
          exact Yld.value (.slice T6 SS.length d6) U (by kernel_rfl) (by go_simp) ⟨Below.refl _ _, Fx.fixed rfl rfl⟩
        refine ⟨⟨_, rfl, fun ν U hU hp => ?_⟩, ?_⟩
        · simp only [putsν, Act.put, List.setIfInBounds_toArray, List.set_cons_zero, List.set_cons_succ]
          have e1 := (hp 1 (by kernel_rfl) (by kernel_rfl)).val _ rfl
          have e2 := (hp 2 (by kernel_rfl) (by kernel_rfl)).val _ rfl
          have e3 := (hp 3 (by kernel_rfl) (by kernel_rfl)).val _ rfl
          simp only [e1, e2, e3]
          refine Yld.call 23 #[.slice S4 SS.length d4, .slice T6 SS.length d6] (by kernel_rfl) (by go_simp) ?_
          have hcall := HTX.out U hU
          refine hcall.mono ?_
          rintro e V ⟨rfl, hb⟩; exact ⟨_, rfl, hb, Fx.fixed rfl rfl⟩
        refine ⟨⟨_, rfl, fun ν U hU hp => ?_⟩, ?_⟩
        · simp only [putsν, Act.put, List.setIfInBounds_toArray, List.set_cons_zero, List.set_cons_succ]
          have e1 := (hp 1 (by kernel_rfl) (by kernel_rfl)).val _ rfl
          have e4 := (hp 4 (by kernel_rfl) (by kernel_rfl)).val _ rfl
          simp only [e1, e4]
          exact Yld.value (.bool true) U (by kernel_rfl) (by go_simp) ⟨Below.refl _ _, Fx.fixed rfl rfl⟩
        refine ⟨⟨_, rfl, fun ν U hU hp => ?_⟩, ?_⟩
        · simp only [putsν, Act.put, List.setIfInBounds_toArray, List.set_cons_zero, List.set_cons_succ]
          have e5 := (hp 5 (by kernel_rfl) (by kernel_rfl)).val _ rfl
          simp only [e5]
          exact Yld.value (.bool true) U (by kernel_rfl) (by go_simp) ⟨Below.refl _ _, Fx.fixed rfl rfl⟩
        refine ⟨⟨_, rfl, fun ν U hU hp => ?_⟩, ?_⟩
        · simp only [putsν, Act.put, List.setIfInBounds_toArray, List.set_cons_zero, List.set_cons_succ]
          have e6 := (hp 6 (by kernel_rfl) (by kernel_rfl)).val _ rfl
          simp only [e6]
          exact Yld.value (.slice P7 PP.length c7) U (by kernel_rfl) (by go_simp) ⟨Below.refl _ _, Fx.fixed rfl rfl⟩
        refine ⟨⟨_, rfl, fun ν U hU hp => ?_⟩, ?_⟩
        · simp only [putsν, Act.put, List.setIfInBounds_toArray, List.set_cons_zero, List.set_cons_succ]
          have e6 := (hp 6 (by kernel_rfl) (by kernel_rfl)).val _ rfl
          simp only [e6]
          exact Yld.value (.slice A n c) U (by kernel_rfl) (by go_simp) ⟨Below.refl _ _, Fx.fixed rfl rfl⟩
        refine ⟨⟨_, rfl, fun ν U hU hp => ?_⟩, ?_⟩
        · simp only [putsν, Act.put, List.setIfInBounds_toArray, List.set_cons_zero, List.set_cons_succ]
          have e6 := (hp 6 (by kernel_rfl) (by kernel_rfl)).val _ rfl
          have e8 := (hp 8 (by kernel_rfl) (by kernel_rfl)).val _ rfl
          simp only [e6, e8]
          refine Yld.call 13 #[.slice A n c] (by kernel_rfl) (by go_simp) ?_
          refine (HOF8.out U hU).mono ?_
          rintro e V ⟨C, d, rfl, hi, hb⟩
          exact ⟨_, rfl, hb, Fx.some_ rfl rfl ⟨C, d, rfl, hi⟩⟩
        refine ⟨⟨_, rfl, fun ν U hU hp => ?_⟩, ?_⟩
        · simp only [putsν, Act.put, List.setIfInBounds_toArray, List.set_cons_zero, List.set_cons_succ]
          have e6 := (hp 6 (by kernel_rfl) (by kernel_rfl)).val _ rfl
          simp only [e6]
          exact Yld.value (.agg #[.string x1, .string x2]) U (by kernel_rfl) (by have h0 := keep_at2 HU0.out hU; have h1 := keep_at2 HU1.out hU; go_simp) ⟨Below.refl _ _, Fx.fixed rfl rfl⟩
        refine ⟨⟨_, rfl, fun ν U hU hp => ?_⟩, ?_⟩
        · simp only [putsν, Act.put, List.setIfInBounds_toArray, List.set_cons_zero, List.set_cons_succ]
          have e6 := (hp 6 (by kernel_rfl) (by kernel_rfl)).val _ rfl
          have c9 := (hp 9 (by kernel_rfl) (by kernel_rfl)).is _ rfl
          have e10 := (hp 10 (by kernel_rfl) (by kernel_rfl)).val _ rfl
          simp only [e6, e10]
          obtain ⟨C, d, hv, hi⟩ := c9
          simp only [hv]
          refine Yld.call 25 #[.slice C n d, .agg #[.string x1, .string x2]] (by kernel_rfl) (by go_simp) ?_
          refine (rPostings_any C n d q (x1, x2) U hi).mono ?_
          rintro e V ⟨v, rfl, ho, hb⟩
          rw [HPP.out] at ho
          obtain ⟨P, c', rfl, hr⟩ := nat_row ho
          exact ⟨_, rfl, hb, Fx.some_ rfl rfl ⟨P, c', rfl, hr⟩⟩
        refine ⟨⟨_, rfl, fun ν U hU hp => ?_⟩, ?_⟩
        · simp only [putsν, Act.put, List.setIfInBounds_toArray, List.set_cons_zero, List.set_cons_succ]
          have e6 := (hp 6 (by kernel_rfl) (by kernel_rfl)).val _ rfl
          have e7 := (hp 7 (by kernel_rfl) (by kernel_rfl)).val _ rfl
          have c11 := (hp 11 (by kernel_rfl) (by kernel_rfl)).is _ rfl
          simp only [e6, e7]
          obtain ⟨P, c', hv, hr⟩ := c11
          simp only [hv]
          refine Yld.call 24 #[.slice P7 PP.length c7, .slice P PP.length c'] (by kernel_rfl) (by go_simp) ?_
          have hcall := HRP.out U hU P c' hr
          refine hcall.mono ?_
          rintro e V ⟨rfl, hb⟩; exact ⟨_, rfl, hb, Fx.fixed rfl rfl⟩
        refine ⟨⟨_, rfl, fun ν U hU hp => ?_⟩, ?_⟩
        · simp only [putsν, Act.put, List.setIfInBounds_toArray, List.set_cons_zero, List.set_cons_succ]
          have e6 := (hp 6 (by kernel_rfl) (by kernel_rfl)).val _ rfl
          have e12 := (hp 12 (by kernel_rfl) (by kernel_rfl)).val _ rfl
          simp only [e6, e12]
          exact Yld.value (.bool true) U (by kernel_rfl) (by go_simp) ⟨Below.refl _ _, Fx.fixed rfl rfl⟩
        refine ⟨⟨_, rfl, fun ν U hU hp => ?_⟩, ?_⟩
        · simp only [putsν, Act.put, List.setIfInBounds_toArray, List.set_cons_zero, List.set_cons_succ]
          have e13 := (hp 13 (by kernel_rfl) (by kernel_rfl)).val _ rfl
          simp only [e13]
          exact Yld.value (.bool true) U (by kernel_rfl) (by go_simp) ⟨Below.refl _ _, Fx.fixed rfl rfl⟩
        refine ⟨⟨_, rfl, fun ν U hU hp => ?_⟩, ?_⟩
        · simp only [putsν, Act.put, List.setIfInBounds_toArray, List.set_cons_zero, List.set_cons_succ]
          have e14 := (hp 14 (by kernel_rfl) (by kernel_rfl)).val _ rfl
          simp only [e14]
          exact Yld.value (.slice P8 QQ.length c8) U (by kernel_rfl) (by go_simp) ⟨Below.refl _ _, Fx.fixed rfl rfl⟩
        refine ⟨⟨_, rfl, fun ν U hU hp => ?_⟩, ?_⟩
        · simp only [putsν, Act.put, List.setIfInBounds_toArray, List.set_cons_zero, List.set_cons_succ]
          have e14 := (hp 14 (by kernel_rfl) (by kernel_rfl)).val _ rfl
          simp only [e14]
          exact Yld.value (.slice A n c) U (by kernel_rfl) (by go_simp) ⟨Below.refl _ _, Fx.fixed rfl rfl⟩
        refine ⟨⟨_, rfl, fun ν U hU hp => ?_⟩, ?_⟩
        · simp only [putsν, Act.put, List.setIfInBounds_toArray, List.set_cons_zero, List.set_cons_succ]
          have e14 := (hp 14 (by kernel_rfl) (by kernel_rfl)).val _ rfl
          have e16 := (hp 16 (by kernel_rfl) (by kernel_rfl)).val _ rfl
          simp only [e14, e16]
          refine Yld.call 13 #[.slice A n c] (by kernel_rfl) (by go_simp) ?_
          refine (HOF8.out U hU).mono ?_
          rintro e V ⟨C, d, rfl, hi, hb⟩
          exact ⟨_, rfl, hb, Fx.some_ rfl rfl ⟨C, d, rfl, hi⟩⟩
        refine ⟨⟨_, rfl, fun ν U hU hp => ?_⟩, ?_⟩
        · simp only [putsν, Act.put, List.setIfInBounds_toArray, List.set_cons_zero, List.set_cons_succ]
          have e14 := (hp 14 (by kernel_rfl) (by kernel_rfl)).val _ rfl
          simp only [e14]
          exact Yld.value (.slice B km cm) U (by kernel_rfl) (by go_simp) ⟨Below.refl _ _, Fx.fixed rfl rfl⟩
        refine ⟨⟨_, rfl, fun ν U hU hp => ?_⟩, ?_⟩
        · simp only [putsν, Act.put, List.setIfInBounds_toArray, List.set_cons_zero, List.set_cons_succ]
          have e14 := (hp 14 (by kernel_rfl) (by kernel_rfl)).val _ rfl
          have c17 := (hp 17 (by kernel_rfl) (by kernel_rfl)).is _ rfl
          have e18 := (hp 18 (by kernel_rfl) (by kernel_rfl)).val _ rfl
          simp only [e14, e18]
          obtain ⟨C, d, hv, hi⟩ := c17
          simp only [hv]
          refine Yld.call 26 #[.slice C n d, .slice B km cm] (by kernel_rfl) (by go_simp) ?_
          refine (rAsk_any C n d q B km cm hk1 mt U hi (HMU.out U hU)).mono ?_
          rintro e V ⟨v, rfl, ho, hb⟩
          rw [HQQ.out] at ho
          obtain ⟨P, c', rfl, hr⟩ := nat_row ho
          exact ⟨_, rfl, hb, Fx.some_ rfl rfl ⟨P, c', rfl, hr⟩⟩
        refine ⟨⟨_, rfl, fun ν U hU hp => ?_⟩, ?_⟩
        · simp only [putsν, Act.put, List.setIfInBounds_toArray, List.set_cons_zero, List.set_cons_succ]
          have e14 := (hp 14 (by kernel_rfl) (by kernel_rfl)).val _ rfl
          have e15 := (hp 15 (by kernel_rfl) (by kernel_rfl)).val _ rfl
          have c19 := (hp 19 (by kernel_rfl) (by kernel_rfl)).is _ rfl
          simp only [e14, e15]
          obtain ⟨P, c', hv, hr⟩ := c19
          simp only [hv]
          refine Yld.call 24 #[.slice P8 QQ.length c8, .slice P QQ.length c'] (by kernel_rfl) (by go_simp) ?_
          have hcall := HRQ.out U hU P c' hr
          refine hcall.mono ?_
          rintro e V ⟨rfl, hb⟩; exact ⟨_, rfl, hb, Fx.fixed rfl rfl⟩
        refine ⟨⟨_, rfl, fun ν U hU hp => ?_⟩, ?_⟩
        · simp only [putsν, Act.put, List.setIfInBounds_toArray, List.set_cons_zero, List.set_cons_succ]
          have e14 := (hp 14 (by kernel_rfl) (by kernel_rfl)).val _ rfl
          have e20 := (hp 20 (by kernel_rfl) (by kernel_rfl)).val _ rfl
          simp only [e14, e20]
          exact Yld.value (.bool true) U (by kernel_rfl) (by go_simp) ⟨Below.refl _ _, Fx.fixed rfl rfl⟩
        refine ⟨⟨_, rfl, fun ν U hU hp => ?_⟩, ?_⟩
        · simp only [putsν, Act.put, List.setIfInBounds_toArray, List.set_cons_zero, List.set_cons_succ]
          have e21 := (hp 21 (by kernel_rfl) (by kernel_rfl)).val _ rfl
          simp only [e21]
          exact Yld.value (.bool true) U (by kernel_rfl) (by go_simp) ⟨Below.refl _ _, Fx.fixed rfl rfl⟩
        trivial
      intro ν w18 hS18 hf
      have e0 := (hf 0 (by kernel_rfl)).val _ rfl
      have e1 := (hf 1 (by kernel_rfl)).val _ rfl
      have e2 := (hf 2 (by kernel_rfl)).val _ rfl
      have e3 := (hf 3 (by kernel_rfl)).val _ rfl
      have e4 := (hf 4 (by kernel_rfl)).val _ rfl
      have e5 := (hf 5 (by kernel_rfl)).val _ rfl
      have e6 := (hf 6 (by kernel_rfl)).val _ rfl
      have e7 := (hf 7 (by kernel_rfl)).val _ rfl
      have e8 := (hf 8 (by kernel_rfl)).val _ rfl
      have c9 := (hf 9 (by kernel_rfl)).is _ rfl
      have e10 := (hf 10 (by kernel_rfl)).val _ rfl
      have c11 := (hf 11 (by kernel_rfl)).is _ rfl
      have e12 := (hf 12 (by kernel_rfl)).val _ rfl
      have e13 := (hf 13 (by kernel_rfl)).val _ rfl
      have e14 := (hf 14 (by kernel_rfl)).val _ rfl
      have e15 := (hf 15 (by kernel_rfl)).val _ rfl
      have e16 := (hf 16 (by kernel_rfl)).val _ rfl
      have c17 := (hf 17 (by kernel_rfl)).is _ rfl
      have e18 := (hf 18 (by kernel_rfl)).val _ rfl
      have c19 := (hf 19 (by kernel_rfl)).is _ rfl
      have e20 := (hf 20 (by kernel_rfl)).val _ rfl
      have e21 := (hf 21 (by kernel_rfl)).val _ rfl
      have e22 := (hf 22 (by kernel_rfl)).val _ rfl
      simp only [putsν, Act.put, List.setIfInBounds_toArray, List.set_cons_zero, List.set_cons_succ, e0, e1, e2, e3, e4, e5, e6, e7, e8, e10, e12, e13, e14, e15, e16, e18, e20, e21, e22]
      clear hf e0 e1 e2 e3 e4 e5 e6 e7 e8 e10 e12 e13 e14 e15 e16 e18 e20 e21 e22
      refine wpAnyT_done (by kernel_rfl) ?_ _
      refine only_mk ?_
      have HFIN := Lib.hid (HDONE.out _ (below_step HB3.out (below_step HB8.out hS18)))
      clear hS18
      go_wp2_with fail
      go_ret
      exact ⟨rfl, HFIN.out⟩
end Go.Proofs.YtliobahnekohmaaGreat
