/-
  TruthTells: the walk.
-/
import Derived.Test.YtidfanmfibbiiaaTrHc
import Derived.Test.YtidfanmfibbiiaaTrO
namespace Go.Proofs.Ytidfanmfibbiiaa
open Go.RowKit
/-- a state that the law keeps in a block -/
structure StAt (W wr : World) (sb : Nat) (A : Option Addr) (n c : Nat) (q : Nat → SerAt) (fl : Int) : Prop where
  bel : Below W.heap.size W wr
  lo : W.heap.size ≤ sb
  sk : wr.heap[sb]? = some (.cells #[.slice A n c, .int .i64 fl] 28 (0, 0))
  rows : WorkRows wr W.heap.size (.slice A n c) n q
  ok : Tr.Ok par ⟨sers q n, fl⟩
theorem StAt.far {W wr w2 : World} {sb : Nat} {A : Option Addr} {n c : Nat} {q : Nat → SerAt} {fl : Int} (h : StAt W wr sb A n c q fl) (hb : Below wr.heap.size wr w2) : StAt W w2 sb A n c q fl := ⟨below_step h.bel hb, h.lo, heap_keep h.sk hb, h.rows.far hb, h.ok⟩
theorem StAt.srs {W wr : World} {sb : Nat} {A : Option Addr} {n c : Nat} {q : Nat → SerAt} {fl : Int} (h : StAt W wr sb A n c q fl) : Sers wr A n c q := by
  obtain ⟨A2, c2, e, h2⟩ := h.rows.sers
  cases e
  exact h2
theorem then_mk {K : Act → World → Prop} {Q : Exit → Act → World → Prop} {a : Act} {w : World} (h : K a w) : Exit.then K Q .normal a w := h
theorem ok_few {q : Nat → SerAt} {n : Nat} {fl : Int} (h : Tr.Ok par ⟨sers q n, fl⟩) : n ≤ 20 ∧ ∀ i, i < n → (q i).sn ≤ 200 := by
  have h1 := h.len
  rw [show (⟨sers q n, fl⟩ : Tr.Stt (List Lab)).ser = sers q n from rfl, sers_length] at h1
  exact ⟨h1, sn_of (fun x hx => (h.each x hx).len)⟩
/-- the next state laid in the place of the one before -/
theorem StAt.next {W wr w2 : World} {sb : Nat} {A A2 : Option Addr} {n c n2 c2 : Nat} {q q2 : Nat → SerAt} {fl fl2 : Int} (h : StAt W wr sb A n c q fl) (hb : Below wr.heap.size wr w2) (hr : WorkRows w2 W.heap.size (.slice A2 n2 c2) n2 q2) (ho : Tr.Ok par ⟨sers q2 n2, fl2⟩) :
    StAt W ((w2.setCell ⟨sb, 0, none⟩ (.slice A2 n2 c2)).setCell ⟨sb, 1, none⟩ (.int .i64 fl2)) sb A2 n2 c2 q2 fl2 := by
  have hk := heap_keep h.sk hb
  obtain ⟨k1, k2, k3⟩ := state_laid hk (.slice A2 n2 c2) (.int .i64 fl2)
  exact ⟨k3 W h.lo (below_step h.bel hb), h.lo, k1, hr.keeps k2 (by decide) (by decide) (by decide), ho⟩
theorem recs_len {α μ : Type} [DecidableEq α] (p : Tr.Par α μ) (S : Tr.Stt α) (o : Tr.Op α μ) (g : Int) : (Tr.run p S o g).2.2.length ≤ S.ser.length + 1 := by
  unfold Tr.run
  repeat' split
  all_goals first | (show 0 ≤ _; omega) | (show 1 ≤ _; omega) | (exact Nat.le_trans (List.length_filterMap_le _ _) (Nat.le_succ _))
theorem recsL_len (r : Nat → RecAt) (m : Nat) : (recsL r m).length = m := by simp [recsL]
set_option maxRecDepth 100000 in
set_option maxHeartbeats 8000000 in
theorem truthTells_walk0 (W : World) (A : Option Addr) (n c : Nat) (hn : n ≤ maxLen) (o : Nat → OpAt) (hA : Row 7 (fun i => (o i).cell) W A n) (ho : ∀ i, i < n → OpIn W (o i)) (B : Option Addr) (m d : Nat) (g : Nat → Int) (hB : Row 1 (fun i _ => .int .i64 (g i)) W B m) :
    Calls Try.prog 3 #[.slice A n c, .slice B m d] W fun e w' => e = .returned (.bool true) ∧ Below W.heap.size W w' := by
  have HA := Lib.hid hA; have HO := Lib.hid ho; have HB := Lib.hid hB
  have HWO := Lib.hid (works_any W)
  have HFW := Lib.hid (fun U (hb : Below W.heap.size W U) => FewOps_any A n c hn o U (hA.later hb) (fun i hi => (ho i hi).later hb))
  clear hA ho hB
  go_enter Try.func3, Try.ntmps3
  go_wp2_with fail
  refine HWO.out.mono ?_; rintro e w1 ⟨rfl, hb1⟩
  have HB1 := Lib.hid hb1; clear hb1 HWO
  go_wp2_with fail
  refine (HFW.out _ HB1.out).mono ?_; rintro e w2 ⟨rfl, hb2⟩
  have HB2 := Lib.hid (below_step HB1.out hb2); clear hb2 HFW
  cases hfew : fewOs o n
  · clear hfew
    go_wp2_with fail
    go_ret
    exact ⟨rfl, HB2.out⟩
  obtain ⟨hn40, hfo⟩ := fewOs_yes hfew
  have HSM := Lib.hid (fun i (hi : i < n) => (HO.out i hi).sm (hfo i hi))
  clear hfew hfo HO
  by_cases hmn : m < n
  · have d1 : decide ((m : Int) < (n : Int)) = true := decide_eq_true (by omega)
    have d2 : decide (m < n) = true := decide_eq_true hmn
    go_wp2_with fail
    go_ret
    exact ⟨rfl, HB2.out⟩
  have d1 : decide ((m : Int) < (n : Int)) = false := decide_eq_false (by omega)
  have d2 : decide (m < n) = false := decide_eq_false hmn
  go_wp2_with fail
  obtain ⟨w3, hw3⟩ : ∃ w3, w3 = w2.alloc (.cells #[.slice none 0 0, .int .i64 0] 28) := ⟨_, rfl⟩
  obtain ⟨sb, hsb⟩ : ∃ sb, sb = w2.heap.size := ⟨_, rfl⟩
  have hb3 : Below w2.heap.size w2 w3 := by rw [hw3]; exact (Below.refl _ _).alloc (Nat.le_refl _) _
  have HST : Hid (StAt W w3 sb none 0 0 q0 0) := Lib.hid ⟨below_step HB2.out hb3, by rw [hsb]; exact HB2.out.size, by rw [hw3, hsb]; exact heap_alloc_new w2 _, ⟨World.ownsRow_nil _ _ _ _, by omega, fun i hi => by omega, fun i j hi => by omega⟩, Tr.ok_empty⟩
  rw [← hw3, ← hsb]
  clear hw3 hsb hb3 d1 d2
  go_loopw [8, 9, 10, 11, 12, 13] (fun i _ _ _ _ _ wr => ∃ (k : Nat) (A' : Option Addr) (n' c' : Nat) (q : Nat → SerAt) (fl : Int), k ≤ n ∧ i = .int .i64 k ∧ StAt W wr sb A' n' c' q fl) (fun i _ _ _ _ _ _ => n - (intOf i).toNat)
  case atStart => exact ⟨0, none, 0, 0, q0, 0, by omega, rfl, HST.out⟩
  case round =>
    obtain ⟨k, A', n', c', q, fl, hkn, rfl, hst⟩ := hrel
    have HS := Lib.hid hst; clear hst HST
    have i0 : (0 : Int) ≤ (k : Int) := Int.natCast_nonneg _
    by_cases hlt : k < n
    · have i1 : (k : Int) < (n : Int) := by omega
      have i2 : (k : Int) < (m : Int) := by omega
      have hkm : k < m := by omega
      have d1 : decide ((k : Int) < (n : Int)) = true := decide_eq_true i1
      obtain ⟨ad, rfl, cc0, cc⟩ := HA.out.at_ HS.out.bel hlt
      obtain ⟨bd, rfl, ee0, -⟩ := HB.out.at_ HS.out.bel hkm
      obtain ⟨hf1, hf2⟩ := ok_few HS.out.ok
      have HDO := Lib.hid (fun U (hb : Below wr.heap.size wr U) => Do_any A' n' c' q fl (g k) (o k) U (HS.out.far hb).srs (by omega) (fun i hi => Nat.le_trans (hf2 i hi) (by decide)) ((HSM.out k hlt).later (HS.out.far hb).bel))
      have HTE := Lib.hid (Tr.tells par_good HS.out.ok (o k).op (g k))
      have HOK := Lib.hid (Tr.ok_run par_good HS.out.ok (o k).op (g k))
      have HRL := Lib.hid (recs_len par ⟨sers q n', fl⟩ (o k).op (g k))
      generalize hr : Tr.run par ⟨sers q n', fl⟩ (o k).op (g k) = r at *
      clear hr
      go_wp2_with fail
      refine plain_T_cut (fun U => Below wr.heap.size wr U) [] (fun a0 a2 w2 => ∃ (p p2 : Nat) (A9 : Option Addr) (n9 c9 : Nat) (q9 : Nat → SerAt) (B9 : Option Addr) (m9 d9 : Nat) (C9 : Option Addr) (k9 f9 : Nat) (rr9 : Nat → RecAt),
        (sers q9 n9 = r.1.ser ∧ recsL rr9 k9 = r.2.2 ∧ k9 ≤ 1000) ∧ RG wr (some (p, #[.slice A9 n9 c9, .int .i64 r.1.floor])) (some (p2, #[.int .i64 r.2.1.err, .int .i64 r.2.1.n, .slice B9 m9 d9])) (DW W.heap.size A9 n9 c9 q9 C9 k9 f9 rr9) w2 ∧
        a2 = puts a0 [(some 37, .agg #[.slice A' n' c', .int .i64 fl]), (some 38, .slice (some ad) n c), (some 39, .int .i64 (k : Int)), (some 40, .pointer (some (ad.add (k * 7)))), (some 41, .agg #[.int .i64 (o k).kind, .slice (o k).la (o k).ln (o k).lc, .slice (o k).ma (o k).mn (o k).mc, .int .i64 (o k).t, .int .i64 (o k).hi, .int .u64 (o k).v, .int .i64 (o k).gen]), (some 42, .slice (some bd) m d), (some 43, .int .i64 (k : Int)), (some 44, .pointer (some (bd.add k))), (some 45, .int .i64 (g k)), (some 46, .tuple #[.agg #[.slice A9 n9 c9, .int .i64 r.1.floor], .agg #[.int .i64 r.2.1.err, .int .i64 r.2.1.n, .slice B9 m9 d9], .slice C9 k9 f9]), (some 36, .tuple #[.agg #[.slice A9 n9 c9, .int .i64 r.1.floor], .agg #[.int .i64 r.2.1.err, .int .i64 r.2.1.n, .slice B9 m9 d9], .slice C9 k9 f9]), (some 47, .agg #[.slice A9 n9 c9, .int .i64 r.1.floor]), (some 48, .agg #[.int .i64 r.2.1.err, .int .i64 r.2.1.n, .slice B9 m9 d9]), (some 49, .slice C9 k9 f9), (some 9, .pointer (some ⟨p, 0, none⟩)), (some 10, .pointer (some ⟨p2, 0, none⟩)), (some 11, .slice C9 k9 f9)]) (by kernel_rfl) ?_ ?_
      · have HD : Hid (Below wr.heap.size wr wr.drew) := Lib.hid (Below.refl _ _).drew
        generalize wr.drew = wd at HD ⊢
        have HOC : Hid (∀ U, Below wr.heap.size wr U → U.cell? (ad.add (k * 7)) = some (.int .i64 (o k).kind) ∧ U.cell? ⟨(ad.add (k * 7)).block, (ad.add (k * 7)).off + 1, none⟩ = some (.slice (o k).la (o k).ln (o k).lc) ∧ U.cell? ⟨(ad.add (k * 7)).block, (ad.add (k * 7)).off + 2, none⟩ = some (.slice (o k).ma (o k).mn (o k).mc) ∧ U.cell? ⟨(ad.add (k * 7)).block, (ad.add (k * 7)).off + 3, none⟩ = some (.int .i64 (o k).t) ∧ U.cell? ⟨(ad.add (k * 7)).block, (ad.add (k * 7)).off + 4, none⟩ = some (.int .i64 (o k).hi) ∧ U.cell? ⟨(ad.add (k * 7)).block, (ad.add (k * 7)).off + 5, none⟩ = some (.int .u64 (o k).v) ∧ U.cell? ⟨(ad.add (k * 7)).block, (ad.add (k * 7)).off + 6, none⟩ = some (.int .i64 (o k).gen)) := Lib.hid (fun U hU =>
          ⟨cell_keep (cc0 (by decide)) hU, cell_keep (cc 1 (by omega) (by omega)) hU, cell_keep (cc 2 (by omega) (by omega)) hU, cell_keep (cc 3 (by omega) (by omega)) hU, cell_keep (cc 4 (by omega) (by omega)) hU, cell_keep (cc 5 (by omega) (by omega)) hU, cell_keep (cc 6 (by omega) (by omega)) hU⟩)
        have HGC : Hid (∀ U, Below wr.heap.size wr U → U.cell? (bd.add k) = some (.int .i64 (g k))) := Lib.hid (fun U hU => by have h := cell_keep (ee0 (by decide)) hU; rw [Nat.mul_one] at h; exact h)
        clear cc0 cc ee0
        refine wpAnyT_pick (S := (fun U => Below wr.heap.size wr U)) (by kernel_rfl) Only.panic Only.keepsIn (w := wd) HD.out [0, 1, 2, 3, 4, 5, 6, 7, 8] 10 _ _ (by kernel_rfl) ?_
        refine PickT.value (d := some 37) (.agg #[.slice A' n' c', .int .i64 fl]) rfl rfl (by kernel_rfl) (fun U hU => (by have hy := heap_keep HS.out.sk hU; have h0 : U.cell? ⟨sb, 0, none⟩ = some (.slice A' n' c') := cell_of_row _ _ _ _ _ _ hy; have h1 : U.cell? ⟨sb, 1, none⟩ = some (.int .i64 fl) := cell_of_row _ _ _ _ _ _ hy; go_simp)) ?_
        refine PickT.value (d := some 38) (.slice (some ad) n c) rfl rfl (by kernel_rfl) (fun U hU => (by go_simp)) ?_
        refine PickT.value (d := some 39) (.int .i64 (k : Int)) rfl rfl (by kernel_rfl) (fun U hU => (by go_simp)) ?_
        refine PickT.value (d := some 40) (.pointer (some (ad.add (k * 7)))) rfl rfl (by kernel_rfl) (fun U hU => (by go_simp)) ?_
        refine PickT.value (d := some 41) (.agg #[.int .i64 (o k).kind, .slice (o k).la (o k).ln (o k).lc, .slice (o k).ma (o k).mn (o k).mc, .int .i64 (o k).t, .int .i64 (o k).hi, .int .u64 (o k).v, .int .i64 (o k).gen]) rfl rfl (by kernel_rfl) (fun U hU => (by obtain ⟨h0, h1, h2, h3, h4, h5, h6⟩ := HOC.out U hU; go_simp)) ?_
        refine PickT.value (d := some 42) (.slice (some bd) m d) rfl rfl (by kernel_rfl) (fun U hU => (by go_simp)) ?_
        refine PickT.value (d := some 43) (.int .i64 (k : Int)) rfl rfl (by kernel_rfl) (fun U hU => (by go_simp)) ?_
        refine PickT.value (d := some 44) (.pointer (some (bd.add k))) rfl rfl (by kernel_rfl) (fun U hU => (by go_simp)) ?_
        refine PickT.value (d := some 45) (.int .i64 (g k)) rfl rfl (by kernel_rfl) (fun U hU => (by have h0 := HGC.out U hU; go_simp)) ?_
        simp only [PickT, Act.put, List.setIfInBounds_toArray, List.set_cons_zero, List.set_cons_succ]
        have HG := Lib.hid (RG.begin HD.out); have HKB := Lib.hid KB.none_
        clear HOC HGC
        refine wpAnyT_three (i := 9) (j := 14) (l := 15) (by kernel_rfl) rfl rfl rfl (by kernel_rfl) (by kernel_rfl) (by kernel_rfl) ?_ ?_ ?_
        · intro K hK; unfold Oper.wp
          go_simp
          refine (HDO.out _ HG.out.bel).mono ?_; rintro e w9 ⟨A9, n9, c9, q9, B9, m9, d9, aq9, C9, k9, f9, rr9, rfl, -, hse9, -, -, hrs9, hre9, hb9, hrw9, hor9⟩
          have hlo : W.heap.size ≤ wd.heap.size := Nat.le_trans HS.out.bel.size HG.out.bel.size
          have hz := HG.out.call (D2 := DW W.heap.size A9 n9 c9 q9 C9 k9 f9 rr9) hb9 ⟨hrw9.from_ hlo, hor9.from_ hlo⟩
          have HP9 := Lib.hid (And.intro hse9 (And.intro hre9 hrs9.few))
          have HG := Lib.hid hz
          have HKB := Lib.hid (DW.kb W.heap.size A9 n9 c9 q9 C9 k9 f9 rr9)
          clear hz hlo hse9 hrs9 hre9 hb9 hrw9 hor9
          refine hK _ _ (fun _ => HG.out.bel) ?_
          clear hK K
          refine wpAnyT_pick (S := (fun U => Below wr.heap.size wr U)) (by kernel_rfl) Only.panic Only.keepsIn (w := w9) HG.out.bel [10, 11, 12, 13] 5 _ _ (by kernel_rfl) ?_
          refine PickT.value (d := some 36) (.tuple #[.agg #[.slice A9 n9 c9, .int .i64 r.1.floor], .agg #[.int .i64 r.2.1.err, .int .i64 r.2.1.n, .slice B9 m9 d9], .slice C9 k9 f9]) rfl rfl (by kernel_rfl) (fun U hU => (by go_simp)) ?_
          refine PickT.value (d := some 47) (.agg #[.slice A9 n9 c9, .int .i64 r.1.floor]) rfl rfl (by kernel_rfl) (fun U hU => (by go_simp)) ?_
          refine PickT.value (d := some 48) (.agg #[.int .i64 r.2.1.err, .int .i64 r.2.1.n, .slice B9 m9 d9]) rfl rfl (by kernel_rfl) (fun U hU => (by go_simp)) ?_
          refine PickT.value (d := some 49) (.slice C9 k9 f9) rfl rfl (by kernel_rfl) (fun U hU => (by go_simp)) ?_
          simp only [PickT, Act.put, List.setIfInBounds_toArray, List.set_cons_zero, List.set_cons_succ]
          refine wpAnyT_two (i := 14) (j := 15) (by kernel_rfl) rfl rfl (by kernel_rfl) (by kernel_rfl) ?_ ?_
          · intro K hK; unfold Oper.wp
            go_simp
            have hz := HG.out.alloc1 HKB.out
            obtain ⟨p, hp⟩ : ∃ p, p = w9.heap.size := ⟨_, rfl⟩
            obtain ⟨v14, hv⟩ : ∃ v14, v14 = w9.alloc (.cells #[.slice none 0 0, .int .i64 0] 28) := ⟨_, rfl⟩
            rw [← hp, ← hv] at hz ⊢
            have HG := Lib.hid hz
            clear hz hp hv
            refine hK _ _ (fun _ => HG.out.bel) ?_
            clear hK K
            refine wpAnyT_one (i := 15) (by kernel_rfl) rfl (by kernel_rfl) ?_
            intro K hK; unfold Oper.wp
            go_simp
            have hz := HG.out.alloc2 HKB.out
            obtain ⟨p2, hp⟩ : ∃ p2, p2 = v14.heap.size := ⟨_, rfl⟩
            obtain ⟨v15, hv⟩ : ∃ v15, v15 = v14.alloc (.cells #[.int .i64 0, .int .i64 0, .slice none 0 0] 31) := ⟨_, rfl⟩
            rw [← hp, ← hv] at hz ⊢
            have HG := Lib.hid hz
            clear hz hp hv
            refine hK _ _ (fun _ => HG.out.bel) ?_
            clear hK K
            have a0 : v15.cell? ⟨p, 0, none⟩ = some (.slice none 0 0) := cell_of_row _ _ _ _ _ _ (HG.out.z1 _ _ rfl).2
            have a1 : v15.cell? ⟨p, 1, none⟩ = some (.int .i64 0) := cell_of_row _ _ _ _ _ _ (HG.out.z1 _ _ rfl).2
            have b0 : v15.frozen? ⟨p, 0, none⟩ = false := frozen_of_row _ _ _ _ _ (HG.out.z1 _ _ rfl).2
            have b1 : v15.frozen? ⟨p, 1, none⟩ = false := frozen_of_row _ _ _ _ _ (HG.out.z1 _ _ rfl).2
            refine wpAnyT_one (i := 16) (by kernel_rfl) rfl (by kernel_rfl) ?_
            intro K hK
            unfold Oper.wp
            go_simp
            clear a0 a1 b0 b1
            have hz := HG.out.store1 HKB.out (.slice A9 n9 c9) (.int .i64 r.1.floor)
            obtain ⟨v16, hv⟩ : ∃ v16, v16 = (v15.setCell ⟨p, 0, none⟩ (.slice A9 n9 c9)).setCell ⟨p, 1, none⟩ (.int .i64 r.1.floor) := ⟨_, rfl⟩
            rw [← hv] at hz ⊢
            have HG := Lib.hid hz
            clear hz hv
            refine hK _ _ (fun _ => HG.out.bel) ?_
            clear hK K
            have a0 : v16.cell? ⟨p2, 0, none⟩ = some (.int .i64 0) := cell_of_row _ _ _ _ _ _ (HG.out.z2 _ _ rfl).2
            have a1 : v16.cell? ⟨p2, 1, none⟩ = some (.int .i64 0) := cell_of_row _ _ _ _ _ _ (HG.out.z2 _ _ rfl).2
            have a2 : v16.cell? ⟨p2, 2, none⟩ = some (.slice none 0 0) := cell_of_row _ _ _ _ _ _ (HG.out.z2 _ _ rfl).2
            have b0 : v16.frozen? ⟨p2, 0, none⟩ = false := frozen_of_row _ _ _ _ _ (HG.out.z2 _ _ rfl).2
            have b1 : v16.frozen? ⟨p2, 1, none⟩ = false := frozen_of_row _ _ _ _ _ (HG.out.z2 _ _ rfl).2
            have b2 : v16.frozen? ⟨p2, 2, none⟩ = false := frozen_of_row _ _ _ _ _ (HG.out.z2 _ _ rfl).2
            refine wpAnyT_one (i := 17) (by kernel_rfl) rfl (by kernel_rfl) ?_
            intro K hK
            unfold Oper.wp
            go_simp
            clear a0 a1 a2 b0 b1 b2
            have hz := HG.out.store2 HKB.out (.int .i64 r.2.1.err) (.int .i64 r.2.1.n) (.slice B9 m9 d9)
            obtain ⟨v17, hv⟩ : ∃ v17, v17 = ((v16.setCell ⟨p2, 0, none⟩ (.int .i64 r.2.1.err)).setCell ⟨p2, 1, none⟩ (.int .i64 r.2.1.n)).setCell ⟨p2, 2, none⟩ (.slice B9 m9 d9) := ⟨_, rfl⟩
            rw [← hv] at hz ⊢
            have HG := Lib.hid hz
            clear hz hv
            refine hK _ _ (fun _ => HG.out.bel) ?_
            clear hK K
            refine wpAnyT_pick (S := (fun U => Below wr.heap.size wr U)) (by kernel_rfl) Only.panic Only.keepsIn (w := v17) HG.out.bel [18] 0 _ _ (by kernel_rfl) ?_
            refine PickT.value (d := some 11) (.slice C9 k9 f9) rfl rfl (by kernel_rfl) (fun U hU => (by go_simp)) ?_
            simp only [PickT, Act.put, List.setIfInBounds_toArray, List.set_cons_zero, List.set_cons_succ]
            refine wpAnyT_done (by kernel_rfl) ?_ _
            refine only_mk ?_
            exact ⟨p, p2, A9, n9, c9, q9, B9, m9, d9, C9, k9, f9, rr9, HP9.out, HG.out, by kernel_rfl⟩
          · intro K hK; unfold Oper.wp
            go_simp
            have hz := HG.out.alloc2 HKB.out
            obtain ⟨p2, hp⟩ : ∃ p2, p2 = w9.heap.size := ⟨_, rfl⟩
            obtain ⟨v15, hv⟩ : ∃ v15, v15 = w9.alloc (.cells #[.int .i64 0, .int .i64 0, .slice none 0 0] 31) := ⟨_, rfl⟩
            rw [← hp, ← hv] at hz ⊢
            have HG := Lib.hid hz
            clear hz hp hv
            refine hK _ _ (fun _ => HG.out.bel) ?_
            clear hK K
            refine wpAnyT_one (i := 14) (by kernel_rfl) rfl (by kernel_rfl) ?_
            intro K hK; unfold Oper.wp
            go_simp
            have hz := HG.out.alloc1 HKB.out
            obtain ⟨p, hp⟩ : ∃ p, p = v15.heap.size := ⟨_, rfl⟩
            obtain ⟨v14, hv⟩ : ∃ v14, v14 = v15.alloc (.cells #[.slice none 0 0, .int .i64 0] 28) := ⟨_, rfl⟩
            rw [← hp, ← hv] at hz ⊢
            have HG := Lib.hid hz
            clear hz hp hv
            refine hK _ _ (fun _ => HG.out.bel) ?_
            clear hK K
            have a0 : v14.cell? ⟨p, 0, none⟩ = some (.slice none 0 0) := cell_of_row _ _ _ _ _ _ (HG.out.z1 _ _ rfl).2
            have a1 : v14.cell? ⟨p, 1, none⟩ = some (.int .i64 0) := cell_of_row _ _ _ _ _ _ (HG.out.z1 _ _ rfl).2
            have b0 : v14.frozen? ⟨p, 0, none⟩ = false := frozen_of_row _ _ _ _ _ (HG.out.z1 _ _ rfl).2
            have b1 : v14.frozen? ⟨p, 1, none⟩ = false := frozen_of_row _ _ _ _ _ (HG.out.z1 _ _ rfl).2
            refine wpAnyT_one (i := 16) (by kernel_rfl) rfl (by kernel_rfl) ?_
            intro K hK
            unfold Oper.wp
            go_simp
            clear a0 a1 b0 b1
            have hz := HG.out.store1 HKB.out (.slice A9 n9 c9) (.int .i64 r.1.floor)
            obtain ⟨v16, hv⟩ : ∃ v16, v16 = (v14.setCell ⟨p, 0, none⟩ (.slice A9 n9 c9)).setCell ⟨p, 1, none⟩ (.int .i64 r.1.floor) := ⟨_, rfl⟩
            rw [← hv] at hz ⊢
            have HG := Lib.hid hz
            clear hz hv
            refine hK _ _ (fun _ => HG.out.bel) ?_
            clear hK K
            have a0 : v16.cell? ⟨p2, 0, none⟩ = some (.int .i64 0) := cell_of_row _ _ _ _ _ _ (HG.out.z2 _ _ rfl).2
            have a1 : v16.cell? ⟨p2, 1, none⟩ = some (.int .i64 0) := cell_of_row _ _ _ _ _ _ (HG.out.z2 _ _ rfl).2
            have a2 : v16.cell? ⟨p2, 2, none⟩ = some (.slice none 0 0) := cell_of_row _ _ _ _ _ _ (HG.out.z2 _ _ rfl).2
            have b0 : v16.frozen? ⟨p2, 0, none⟩ = false := frozen_of_row _ _ _ _ _ (HG.out.z2 _ _ rfl).2
            have b1 : v16.frozen? ⟨p2, 1, none⟩ = false := frozen_of_row _ _ _ _ _ (HG.out.z2 _ _ rfl).2
            have b2 : v16.frozen? ⟨p2, 2, none⟩ = false := frozen_of_row _ _ _ _ _ (HG.out.z2 _ _ rfl).2
            refine wpAnyT_one (i := 17) (by kernel_rfl) rfl (by kernel_rfl) ?_
            intro K hK
            unfold Oper.wp
            go_simp
            clear a0 a1 a2 b0 b1 b2
            have hz := HG.out.store2 HKB.out (.int .i64 r.2.1.err) (.int .i64 r.2.1.n) (.slice B9 m9 d9)
            obtain ⟨v17, hv⟩ : ∃ v17, v17 = ((v16.setCell ⟨p2, 0, none⟩ (.int .i64 r.2.1.err)).setCell ⟨p2, 1, none⟩ (.int .i64 r.2.1.n)).setCell ⟨p2, 2, none⟩ (.slice B9 m9 d9) := ⟨_, rfl⟩
            rw [← hv] at hz ⊢
            have HG := Lib.hid hz
            clear hz hv
            refine hK _ _ (fun _ => HG.out.bel) ?_
            clear hK K
            refine wpAnyT_pick (S := (fun U => Below wr.heap.size wr U)) (by kernel_rfl) Only.panic Only.keepsIn (w := v17) HG.out.bel [18] 0 _ _ (by kernel_rfl) ?_
            refine PickT.value (d := some 11) (.slice C9 k9 f9) rfl rfl (by kernel_rfl) (fun U hU => (by go_simp)) ?_
            simp only [PickT, Act.put, List.setIfInBounds_toArray, List.set_cons_zero, List.set_cons_succ]
            refine wpAnyT_done (by kernel_rfl) ?_ _
            refine only_mk ?_
            exact ⟨p, p2, A9, n9, c9, q9, B9, m9, d9, C9, k9, f9, rr9, HP9.out, HG.out, by kernel_rfl⟩
        · intro K hK; unfold Oper.wp
          go_simp
          have hz := HG.out.alloc1 HKB.out
          obtain ⟨p, hp⟩ : ∃ p, p = wd.heap.size := ⟨_, rfl⟩
          obtain ⟨v14, hv⟩ : ∃ v14, v14 = wd.alloc (.cells #[.slice none 0 0, .int .i64 0] 28) := ⟨_, rfl⟩
          rw [← hp, ← hv] at hz ⊢
          have HG := Lib.hid hz
          clear hz hp hv
          refine hK _ _ (fun _ => HG.out.bel) ?_
          clear hK K
          refine wpAnyT_two (i := 9) (j := 15) (by kernel_rfl) rfl rfl (by kernel_rfl) (by kernel_rfl) ?_ ?_
          · intro K hK; unfold Oper.wp
            go_simp
            refine (HDO.out _ HG.out.bel).mono ?_; rintro e w9 ⟨A9, n9, c9, q9, B9, m9, d9, aq9, C9, k9, f9, rr9, rfl, -, hse9, -, -, hrs9, hre9, hb9, hrw9, hor9⟩
            have hlo : W.heap.size ≤ v14.heap.size := Nat.le_trans HS.out.bel.size HG.out.bel.size
            have hz := HG.out.call (D2 := DW W.heap.size A9 n9 c9 q9 C9 k9 f9 rr9) hb9 ⟨hrw9.from_ hlo, hor9.from_ hlo⟩
            have HP9 := Lib.hid (And.intro hse9 (And.intro hre9 hrs9.few))
            have HG := Lib.hid hz
            have HKB := Lib.hid (DW.kb W.heap.size A9 n9 c9 q9 C9 k9 f9 rr9)
            clear hz hlo hse9 hrs9 hre9 hb9 hrw9 hor9
            refine hK _ _ (fun _ => HG.out.bel) ?_
            clear hK K
            refine wpAnyT_pick (S := (fun U => Below wr.heap.size wr U)) (by kernel_rfl) Only.panic Only.keepsIn (w := w9) HG.out.bel [10, 11, 12, 13] 4 _ _ (by kernel_rfl) ?_
            refine PickT.value (d := some 36) (.tuple #[.agg #[.slice A9 n9 c9, .int .i64 r.1.floor], .agg #[.int .i64 r.2.1.err, .int .i64 r.2.1.n, .slice B9 m9 d9], .slice C9 k9 f9]) rfl rfl (by kernel_rfl) (fun U hU => (by go_simp)) ?_
            refine PickT.value (d := some 47) (.agg #[.slice A9 n9 c9, .int .i64 r.1.floor]) rfl rfl (by kernel_rfl) (fun U hU => (by go_simp)) ?_
            refine PickT.value (d := some 48) (.agg #[.int .i64 r.2.1.err, .int .i64 r.2.1.n, .slice B9 m9 d9]) rfl rfl (by kernel_rfl) (fun U hU => (by go_simp)) ?_
            refine PickT.value (d := some 49) (.slice C9 k9 f9) rfl rfl (by kernel_rfl) (fun U hU => (by go_simp)) ?_
            simp only [PickT, Act.put, List.setIfInBounds_toArray, List.set_cons_zero, List.set_cons_succ]
            refine wpAnyT_one (i := 15) (by kernel_rfl) rfl (by kernel_rfl) ?_
            intro K hK; unfold Oper.wp
            go_simp
            have hz := HG.out.alloc2 HKB.out
            obtain ⟨p2, hp⟩ : ∃ p2, p2 = w9.heap.size := ⟨_, rfl⟩
            obtain ⟨v15, hv⟩ : ∃ v15, v15 = w9.alloc (.cells #[.int .i64 0, .int .i64 0, .slice none 0 0] 31) := ⟨_, rfl⟩
            rw [← hp, ← hv] at hz ⊢
            have HG := Lib.hid hz
            clear hz hp hv
            refine hK _ _ (fun _ => HG.out.bel) ?_
            clear hK K
            have a0 : v15.cell? ⟨p, 0, none⟩ = some (.slice none 0 0) := cell_of_row _ _ _ _ _ _ (HG.out.z1 _ _ rfl).2
            have a1 : v15.cell? ⟨p, 1, none⟩ = some (.int .i64 0) := cell_of_row _ _ _ _ _ _ (HG.out.z1 _ _ rfl).2
            have b0 : v15.frozen? ⟨p, 0, none⟩ = false := frozen_of_row _ _ _ _ _ (HG.out.z1 _ _ rfl).2
            have b1 : v15.frozen? ⟨p, 1, none⟩ = false := frozen_of_row _ _ _ _ _ (HG.out.z1 _ _ rfl).2
            refine wpAnyT_one (i := 16) (by kernel_rfl) rfl (by kernel_rfl) ?_
            intro K hK
            unfold Oper.wp
            go_simp
            clear a0 a1 b0 b1
            have hz := HG.out.store1 HKB.out (.slice A9 n9 c9) (.int .i64 r.1.floor)
            obtain ⟨v16, hv⟩ : ∃ v16, v16 = (v15.setCell ⟨p, 0, none⟩ (.slice A9 n9 c9)).setCell ⟨p, 1, none⟩ (.int .i64 r.1.floor) := ⟨_, rfl⟩
            rw [← hv] at hz ⊢
            have HG := Lib.hid hz
            clear hz hv
            refine hK _ _ (fun _ => HG.out.bel) ?_
            clear hK K
            have a0 : v16.cell? ⟨p2, 0, none⟩ = some (.int .i64 0) := cell_of_row _ _ _ _ _ _ (HG.out.z2 _ _ rfl).2
            have a1 : v16.cell? ⟨p2, 1, none⟩ = some (.int .i64 0) := cell_of_row _ _ _ _ _ _ (HG.out.z2 _ _ rfl).2
            have a2 : v16.cell? ⟨p2, 2, none⟩ = some (.slice none 0 0) := cell_of_row _ _ _ _ _ _ (HG.out.z2 _ _ rfl).2
            have b0 : v16.frozen? ⟨p2, 0, none⟩ = false := frozen_of_row _ _ _ _ _ (HG.out.z2 _ _ rfl).2
            have b1 : v16.frozen? ⟨p2, 1, none⟩ = false := frozen_of_row _ _ _ _ _ (HG.out.z2 _ _ rfl).2
            have b2 : v16.frozen? ⟨p2, 2, none⟩ = false := frozen_of_row _ _ _ _ _ (HG.out.z2 _ _ rfl).2
            refine wpAnyT_one (i := 17) (by kernel_rfl) rfl (by kernel_rfl) ?_
            intro K hK
            unfold Oper.wp
            go_simp
            clear a0 a1 a2 b0 b1 b2
            have hz := HG.out.store2 HKB.out (.int .i64 r.2.1.err) (.int .i64 r.2.1.n) (.slice B9 m9 d9)
            obtain ⟨v17, hv⟩ : ∃ v17, v17 = ((v16.setCell ⟨p2, 0, none⟩ (.int .i64 r.2.1.err)).setCell ⟨p2, 1, none⟩ (.int .i64 r.2.1.n)).setCell ⟨p2, 2, none⟩ (.slice B9 m9 d9) := ⟨_, rfl⟩
            rw [← hv] at hz ⊢
            have HG := Lib.hid hz
            clear hz hv
            refine hK _ _ (fun _ => HG.out.bel) ?_
            clear hK K
            refine wpAnyT_pick (S := (fun U => Below wr.heap.size wr U)) (by kernel_rfl) Only.panic Only.keepsIn (w := v17) HG.out.bel [18] 0 _ _ (by kernel_rfl) ?_
            refine PickT.value (d := some 11) (.slice C9 k9 f9) rfl rfl (by kernel_rfl) (fun U hU => (by go_simp)) ?_
            simp only [PickT, Act.put, List.setIfInBounds_toArray, List.set_cons_zero, List.set_cons_succ]
            refine wpAnyT_done (by kernel_rfl) ?_ _
            refine only_mk ?_
            exact ⟨p, p2, A9, n9, c9, q9, B9, m9, d9, C9, k9, f9, rr9, HP9.out, HG.out, by kernel_rfl⟩
          · intro K hK; unfold Oper.wp
            go_simp
            have hz := HG.out.alloc2 HKB.out
            obtain ⟨p2, hp⟩ : ∃ p2, p2 = v14.heap.size := ⟨_, rfl⟩
            obtain ⟨v15, hv⟩ : ∃ v15, v15 = v14.alloc (.cells #[.int .i64 0, .int .i64 0, .slice none 0 0] 31) := ⟨_, rfl⟩
            rw [← hp, ← hv] at hz ⊢
            have HG := Lib.hid hz
            clear hz hp hv
            refine hK _ _ (fun _ => HG.out.bel) ?_
            clear hK K
            refine wpAnyT_one (i := 9) (by kernel_rfl) rfl (by kernel_rfl) ?_
            intro K hK; unfold Oper.wp
            go_simp
            refine (HDO.out _ HG.out.bel).mono ?_; rintro e w9 ⟨A9, n9, c9, q9, B9, m9, d9, aq9, C9, k9, f9, rr9, rfl, -, hse9, -, -, hrs9, hre9, hb9, hrw9, hor9⟩
            have hlo : W.heap.size ≤ v15.heap.size := Nat.le_trans HS.out.bel.size HG.out.bel.size
            have hz := HG.out.call (D2 := DW W.heap.size A9 n9 c9 q9 C9 k9 f9 rr9) hb9 ⟨hrw9.from_ hlo, hor9.from_ hlo⟩
            have HP9 := Lib.hid (And.intro hse9 (And.intro hre9 hrs9.few))
            have HG := Lib.hid hz
            have HKB := Lib.hid (DW.kb W.heap.size A9 n9 c9 q9 C9 k9 f9 rr9)
            clear hz hlo hse9 hrs9 hre9 hb9 hrw9 hor9
            refine hK _ _ (fun _ => HG.out.bel) ?_
            clear hK K
            refine wpAnyT_pick (S := (fun U => Below wr.heap.size wr U)) (by kernel_rfl) Only.panic Only.keepsIn (w := w9) HG.out.bel [10, 11, 12, 13] 3 _ _ (by kernel_rfl) ?_
            refine PickT.value (d := some 36) (.tuple #[.agg #[.slice A9 n9 c9, .int .i64 r.1.floor], .agg #[.int .i64 r.2.1.err, .int .i64 r.2.1.n, .slice B9 m9 d9], .slice C9 k9 f9]) rfl rfl (by kernel_rfl) (fun U hU => (by go_simp)) ?_
            refine PickT.value (d := some 47) (.agg #[.slice A9 n9 c9, .int .i64 r.1.floor]) rfl rfl (by kernel_rfl) (fun U hU => (by go_simp)) ?_
            refine PickT.value (d := some 48) (.agg #[.int .i64 r.2.1.err, .int .i64 r.2.1.n, .slice B9 m9 d9]) rfl rfl (by kernel_rfl) (fun U hU => (by go_simp)) ?_
            refine PickT.value (d := some 49) (.slice C9 k9 f9) rfl rfl (by kernel_rfl) (fun U hU => (by go_simp)) ?_
            simp only [PickT, Act.put, List.setIfInBounds_toArray, List.set_cons_zero, List.set_cons_succ]
            have a0 : w9.cell? ⟨p, 0, none⟩ = some (.slice none 0 0) := cell_of_row _ _ _ _ _ _ (HG.out.z1 _ _ rfl).2
            have a1 : w9.cell? ⟨p, 1, none⟩ = some (.int .i64 0) := cell_of_row _ _ _ _ _ _ (HG.out.z1 _ _ rfl).2
            have b0 : w9.frozen? ⟨p, 0, none⟩ = false := frozen_of_row _ _ _ _ _ (HG.out.z1 _ _ rfl).2
            have b1 : w9.frozen? ⟨p, 1, none⟩ = false := frozen_of_row _ _ _ _ _ (HG.out.z1 _ _ rfl).2
            refine wpAnyT_one (i := 16) (by kernel_rfl) rfl (by kernel_rfl) ?_
            intro K hK
            unfold Oper.wp
            go_simp
            clear a0 a1 b0 b1
            have hz := HG.out.store1 HKB.out (.slice A9 n9 c9) (.int .i64 r.1.floor)
            obtain ⟨v16, hv⟩ : ∃ v16, v16 = (w9.setCell ⟨p, 0, none⟩ (.slice A9 n9 c9)).setCell ⟨p, 1, none⟩ (.int .i64 r.1.floor) := ⟨_, rfl⟩
            rw [← hv] at hz ⊢
            have HG := Lib.hid hz
            clear hz hv
            refine hK _ _ (fun _ => HG.out.bel) ?_
            clear hK K
            have a0 : v16.cell? ⟨p2, 0, none⟩ = some (.int .i64 0) := cell_of_row _ _ _ _ _ _ (HG.out.z2 _ _ rfl).2
            have a1 : v16.cell? ⟨p2, 1, none⟩ = some (.int .i64 0) := cell_of_row _ _ _ _ _ _ (HG.out.z2 _ _ rfl).2
            have a2 : v16.cell? ⟨p2, 2, none⟩ = some (.slice none 0 0) := cell_of_row _ _ _ _ _ _ (HG.out.z2 _ _ rfl).2
            have b0 : v16.frozen? ⟨p2, 0, none⟩ = false := frozen_of_row _ _ _ _ _ (HG.out.z2 _ _ rfl).2
            have b1 : v16.frozen? ⟨p2, 1, none⟩ = false := frozen_of_row _ _ _ _ _ (HG.out.z2 _ _ rfl).2
            have b2 : v16.frozen? ⟨p2, 2, none⟩ = false := frozen_of_row _ _ _ _ _ (HG.out.z2 _ _ rfl).2
            refine wpAnyT_one (i := 17) (by kernel_rfl) rfl (by kernel_rfl) ?_
            intro K hK
            unfold Oper.wp
            go_simp
            clear a0 a1 a2 b0 b1 b2
            have hz := HG.out.store2 HKB.out (.int .i64 r.2.1.err) (.int .i64 r.2.1.n) (.slice B9 m9 d9)
            obtain ⟨v17, hv⟩ : ∃ v17, v17 = ((v16.setCell ⟨p2, 0, none⟩ (.int .i64 r.2.1.err)).setCell ⟨p2, 1, none⟩ (.int .i64 r.2.1.n)).setCell ⟨p2, 2, none⟩ (.slice B9 m9 d9) := ⟨_, rfl⟩
            rw [← hv] at hz ⊢
            have HG := Lib.hid hz
            clear hz hv
            refine hK _ _ (fun _ => HG.out.bel) ?_
            clear hK K
            refine wpAnyT_pick (S := (fun U => Below wr.heap.size wr U)) (by kernel_rfl) Only.panic Only.keepsIn (w := v17) HG.out.bel [18] 0 _ _ (by kernel_rfl) ?_
            refine PickT.value (d := some 11) (.slice C9 k9 f9) rfl rfl (by kernel_rfl) (fun U hU => (by go_simp)) ?_
            simp only [PickT, Act.put, List.setIfInBounds_toArray, List.set_cons_zero, List.set_cons_succ]
            refine wpAnyT_done (by kernel_rfl) ?_ _
            refine only_mk ?_
            exact ⟨p, p2, A9, n9, c9, q9, B9, m9, d9, C9, k9, f9, rr9, HP9.out, HG.out, by kernel_rfl⟩
        · intro K hK; unfold Oper.wp
          go_simp
          have hz := HG.out.alloc2 HKB.out
          obtain ⟨p2, hp⟩ : ∃ p2, p2 = wd.heap.size := ⟨_, rfl⟩
          obtain ⟨v15, hv⟩ : ∃ v15, v15 = wd.alloc (.cells #[.int .i64 0, .int .i64 0, .slice none 0 0] 31) := ⟨_, rfl⟩
          rw [← hp, ← hv] at hz ⊢
          have HG := Lib.hid hz
          clear hz hp hv
          refine hK _ _ (fun _ => HG.out.bel) ?_
          clear hK K
          refine wpAnyT_two (i := 9) (j := 14) (by kernel_rfl) rfl rfl (by kernel_rfl) (by kernel_rfl) ?_ ?_
          · intro K hK; unfold Oper.wp
            go_simp
            refine (HDO.out _ HG.out.bel).mono ?_; rintro e w9 ⟨A9, n9, c9, q9, B9, m9, d9, aq9, C9, k9, f9, rr9, rfl, -, hse9, -, -, hrs9, hre9, hb9, hrw9, hor9⟩
            have hlo : W.heap.size ≤ v15.heap.size := Nat.le_trans HS.out.bel.size HG.out.bel.size
            have hz := HG.out.call (D2 := DW W.heap.size A9 n9 c9 q9 C9 k9 f9 rr9) hb9 ⟨hrw9.from_ hlo, hor9.from_ hlo⟩
            have HP9 := Lib.hid (And.intro hse9 (And.intro hre9 hrs9.few))
            have HG := Lib.hid hz
            have HKB := Lib.hid (DW.kb W.heap.size A9 n9 c9 q9 C9 k9 f9 rr9)
            clear hz hlo hse9 hrs9 hre9 hb9 hrw9 hor9
            refine hK _ _ (fun _ => HG.out.bel) ?_
            clear hK K
            refine wpAnyT_pick (S := (fun U => Below wr.heap.size wr U)) (by kernel_rfl) Only.panic Only.keepsIn (w := w9) HG.out.bel [10, 11, 12, 13] 4 _ _ (by kernel_rfl) ?_
            refine PickT.value (d := some 36) (.tuple #[.agg #[.slice A9 n9 c9, .int .i64 r.1.floor], .agg #[.int .i64 r.2.1.err, .int .i64 r.2.1.n, .slice B9 m9 d9], .slice C9 k9 f9]) rfl rfl (by kernel_rfl) (fun U hU => (by go_simp)) ?_
            refine PickT.value (d := some 47) (.agg #[.slice A9 n9 c9, .int .i64 r.1.floor]) rfl rfl (by kernel_rfl) (fun U hU => (by go_simp)) ?_
            refine PickT.value (d := some 48) (.agg #[.int .i64 r.2.1.err, .int .i64 r.2.1.n, .slice B9 m9 d9]) rfl rfl (by kernel_rfl) (fun U hU => (by go_simp)) ?_
            refine PickT.value (d := some 49) (.slice C9 k9 f9) rfl rfl (by kernel_rfl) (fun U hU => (by go_simp)) ?_
            simp only [PickT, Act.put, List.setIfInBounds_toArray, List.set_cons_zero, List.set_cons_succ]
            refine wpAnyT_one (i := 14) (by kernel_rfl) rfl (by kernel_rfl) ?_
            intro K hK; unfold Oper.wp
            go_simp
            have hz := HG.out.alloc1 HKB.out
            obtain ⟨p, hp⟩ : ∃ p, p = w9.heap.size := ⟨_, rfl⟩
            obtain ⟨v14, hv⟩ : ∃ v14, v14 = w9.alloc (.cells #[.slice none 0 0, .int .i64 0] 28) := ⟨_, rfl⟩
            rw [← hp, ← hv] at hz ⊢
            have HG := Lib.hid hz
            clear hz hp hv
            refine hK _ _ (fun _ => HG.out.bel) ?_
            clear hK K
            have a0 : v14.cell? ⟨p, 0, none⟩ = some (.slice none 0 0) := cell_of_row _ _ _ _ _ _ (HG.out.z1 _ _ rfl).2
            have a1 : v14.cell? ⟨p, 1, none⟩ = some (.int .i64 0) := cell_of_row _ _ _ _ _ _ (HG.out.z1 _ _ rfl).2
            have b0 : v14.frozen? ⟨p, 0, none⟩ = false := frozen_of_row _ _ _ _ _ (HG.out.z1 _ _ rfl).2
            have b1 : v14.frozen? ⟨p, 1, none⟩ = false := frozen_of_row _ _ _ _ _ (HG.out.z1 _ _ rfl).2
            refine wpAnyT_one (i := 16) (by kernel_rfl) rfl (by kernel_rfl) ?_
            intro K hK
            unfold Oper.wp
            go_simp
            clear a0 a1 b0 b1
            have hz := HG.out.store1 HKB.out (.slice A9 n9 c9) (.int .i64 r.1.floor)
            obtain ⟨v16, hv⟩ : ∃ v16, v16 = (v14.setCell ⟨p, 0, none⟩ (.slice A9 n9 c9)).setCell ⟨p, 1, none⟩ (.int .i64 r.1.floor) := ⟨_, rfl⟩
            rw [← hv] at hz ⊢
            have HG := Lib.hid hz
            clear hz hv
            refine hK _ _ (fun _ => HG.out.bel) ?_
            clear hK K
            have a0 : v16.cell? ⟨p2, 0, none⟩ = some (.int .i64 0) := cell_of_row _ _ _ _ _ _ (HG.out.z2 _ _ rfl).2
            have a1 : v16.cell? ⟨p2, 1, none⟩ = some (.int .i64 0) := cell_of_row _ _ _ _ _ _ (HG.out.z2 _ _ rfl).2
            have a2 : v16.cell? ⟨p2, 2, none⟩ = some (.slice none 0 0) := cell_of_row _ _ _ _ _ _ (HG.out.z2 _ _ rfl).2
            have b0 : v16.frozen? ⟨p2, 0, none⟩ = false := frozen_of_row _ _ _ _ _ (HG.out.z2 _ _ rfl).2
            have b1 : v16.frozen? ⟨p2, 1, none⟩ = false := frozen_of_row _ _ _ _ _ (HG.out.z2 _ _ rfl).2
            have b2 : v16.frozen? ⟨p2, 2, none⟩ = false := frozen_of_row _ _ _ _ _ (HG.out.z2 _ _ rfl).2
            refine wpAnyT_one (i := 17) (by kernel_rfl) rfl (by kernel_rfl) ?_
            intro K hK
            unfold Oper.wp
            go_simp
            clear a0 a1 a2 b0 b1 b2
            have hz := HG.out.store2 HKB.out (.int .i64 r.2.1.err) (.int .i64 r.2.1.n) (.slice B9 m9 d9)
            obtain ⟨v17, hv⟩ : ∃ v17, v17 = ((v16.setCell ⟨p2, 0, none⟩ (.int .i64 r.2.1.err)).setCell ⟨p2, 1, none⟩ (.int .i64 r.2.1.n)).setCell ⟨p2, 2, none⟩ (.slice B9 m9 d9) := ⟨_, rfl⟩
            rw [← hv] at hz ⊢
            have HG := Lib.hid hz
            clear hz hv
            refine hK _ _ (fun _ => HG.out.bel) ?_
            clear hK K
            refine wpAnyT_pick (S := (fun U => Below wr.heap.size wr U)) (by kernel_rfl) Only.panic Only.keepsIn (w := v17) HG.out.bel [18] 0 _ _ (by kernel_rfl) ?_
            refine PickT.value (d := some 11) (.slice C9 k9 f9) rfl rfl (by kernel_rfl) (fun U hU => (by go_simp)) ?_
            simp only [PickT, Act.put, List.setIfInBounds_toArray, List.set_cons_zero, List.set_cons_succ]
            refine wpAnyT_done (by kernel_rfl) ?_ _
            refine only_mk ?_
            exact ⟨p, p2, A9, n9, c9, q9, B9, m9, d9, C9, k9, f9, rr9, HP9.out, HG.out, by kernel_rfl⟩
          · intro K hK; unfold Oper.wp
            go_simp
            have hz := HG.out.alloc1 HKB.out
            obtain ⟨p, hp⟩ : ∃ p, p = v15.heap.size := ⟨_, rfl⟩
            obtain ⟨v14, hv⟩ : ∃ v14, v14 = v15.alloc (.cells #[.slice none 0 0, .int .i64 0] 28) := ⟨_, rfl⟩
            rw [← hp, ← hv] at hz ⊢
            have HG := Lib.hid hz
            clear hz hp hv
            refine hK _ _ (fun _ => HG.out.bel) ?_
            clear hK K
            refine wpAnyT_one (i := 9) (by kernel_rfl) rfl (by kernel_rfl) ?_
            intro K hK; unfold Oper.wp
            go_simp
            refine (HDO.out _ HG.out.bel).mono ?_; rintro e w9 ⟨A9, n9, c9, q9, B9, m9, d9, aq9, C9, k9, f9, rr9, rfl, -, hse9, -, -, hrs9, hre9, hb9, hrw9, hor9⟩
            have hlo : W.heap.size ≤ v14.heap.size := Nat.le_trans HS.out.bel.size HG.out.bel.size
            have hz := HG.out.call (D2 := DW W.heap.size A9 n9 c9 q9 C9 k9 f9 rr9) hb9 ⟨hrw9.from_ hlo, hor9.from_ hlo⟩
            have HP9 := Lib.hid (And.intro hse9 (And.intro hre9 hrs9.few))
            have HG := Lib.hid hz
            have HKB := Lib.hid (DW.kb W.heap.size A9 n9 c9 q9 C9 k9 f9 rr9)
            clear hz hlo hse9 hrs9 hre9 hb9 hrw9 hor9
            refine hK _ _ (fun _ => HG.out.bel) ?_
            clear hK K
            refine wpAnyT_pick (S := (fun U => Below wr.heap.size wr U)) (by kernel_rfl) Only.panic Only.keepsIn (w := w9) HG.out.bel [10, 11, 12, 13] 3 _ _ (by kernel_rfl) ?_
            refine PickT.value (d := some 36) (.tuple #[.agg #[.slice A9 n9 c9, .int .i64 r.1.floor], .agg #[.int .i64 r.2.1.err, .int .i64 r.2.1.n, .slice B9 m9 d9], .slice C9 k9 f9]) rfl rfl (by kernel_rfl) (fun U hU => (by go_simp)) ?_
            refine PickT.value (d := some 47) (.agg #[.slice A9 n9 c9, .int .i64 r.1.floor]) rfl rfl (by kernel_rfl) (fun U hU => (by go_simp)) ?_
            refine PickT.value (d := some 48) (.agg #[.int .i64 r.2.1.err, .int .i64 r.2.1.n, .slice B9 m9 d9]) rfl rfl (by kernel_rfl) (fun U hU => (by go_simp)) ?_
            refine PickT.value (d := some 49) (.slice C9 k9 f9) rfl rfl (by kernel_rfl) (fun U hU => (by go_simp)) ?_
            simp only [PickT, Act.put, List.setIfInBounds_toArray, List.set_cons_zero, List.set_cons_succ]
            have a0 : w9.cell? ⟨p, 0, none⟩ = some (.slice none 0 0) := cell_of_row _ _ _ _ _ _ (HG.out.z1 _ _ rfl).2
            have a1 : w9.cell? ⟨p, 1, none⟩ = some (.int .i64 0) := cell_of_row _ _ _ _ _ _ (HG.out.z1 _ _ rfl).2
            have b0 : w9.frozen? ⟨p, 0, none⟩ = false := frozen_of_row _ _ _ _ _ (HG.out.z1 _ _ rfl).2
            have b1 : w9.frozen? ⟨p, 1, none⟩ = false := frozen_of_row _ _ _ _ _ (HG.out.z1 _ _ rfl).2
            refine wpAnyT_one (i := 16) (by kernel_rfl) rfl (by kernel_rfl) ?_
            intro K hK
            unfold Oper.wp
            go_simp
            clear a0 a1 b0 b1
            have hz := HG.out.store1 HKB.out (.slice A9 n9 c9) (.int .i64 r.1.floor)
            obtain ⟨v16, hv⟩ : ∃ v16, v16 = (w9.setCell ⟨p, 0, none⟩ (.slice A9 n9 c9)).setCell ⟨p, 1, none⟩ (.int .i64 r.1.floor) := ⟨_, rfl⟩
            rw [← hv] at hz ⊢
            have HG := Lib.hid hz
            clear hz hv
            refine hK _ _ (fun _ => HG.out.bel) ?_
            clear hK K
            have a0 : v16.cell? ⟨p2, 0, none⟩ = some (.int .i64 0) := cell_of_row _ _ _ _ _ _ (HG.out.z2 _ _ rfl).2
            have a1 : v16.cell? ⟨p2, 1, none⟩ = some (.int .i64 0) := cell_of_row _ _ _ _ _ _ (HG.out.z2 _ _ rfl).2
            have a2 : v16.cell? ⟨p2, 2, none⟩ = some (.slice none 0 0) := cell_of_row _ _ _ _ _ _ (HG.out.z2 _ _ rfl).2
            have b0 : v16.frozen? ⟨p2, 0, none⟩ = false := frozen_of_row _ _ _ _ _ (HG.out.z2 _ _ rfl).2
            have b1 : v16.frozen? ⟨p2, 1, none⟩ = false := frozen_of_row _ _ _ _ _ (HG.out.z2 _ _ rfl).2
            have b2 : v16.frozen? ⟨p2, 2, none⟩ = false := frozen_of_row _ _ _ _ _ (HG.out.z2 _ _ rfl).2
            refine wpAnyT_one (i := 17) (by kernel_rfl) rfl (by kernel_rfl) ?_
            intro K hK
            unfold Oper.wp
            go_simp
            clear a0 a1 a2 b0 b1 b2
            have hz := HG.out.store2 HKB.out (.int .i64 r.2.1.err) (.int .i64 r.2.1.n) (.slice B9 m9 d9)
            obtain ⟨v17, hv⟩ : ∃ v17, v17 = ((v16.setCell ⟨p2, 0, none⟩ (.int .i64 r.2.1.err)).setCell ⟨p2, 1, none⟩ (.int .i64 r.2.1.n)).setCell ⟨p2, 2, none⟩ (.slice B9 m9 d9) := ⟨_, rfl⟩
            rw [← hv] at hz ⊢
            have HG := Lib.hid hz
            clear hz hv
            refine hK _ _ (fun _ => HG.out.bel) ?_
            clear hK K
            refine wpAnyT_pick (S := (fun U => Below wr.heap.size wr U)) (by kernel_rfl) Only.panic Only.keepsIn (w := v17) HG.out.bel [18] 0 _ _ (by kernel_rfl) ?_
            refine PickT.value (d := some 11) (.slice C9 k9 f9) rfl rfl (by kernel_rfl) (fun U hU => (by go_simp)) ?_
            simp only [PickT, Act.put, List.setIfInBounds_toArray, List.set_cons_zero, List.set_cons_succ]
            refine wpAnyT_done (by kernel_rfl) ?_ _
            refine only_mk ?_
            exact ⟨p, p2, A9, n9, c9, q9, B9, m9, d9, C9, k9, f9, rr9, HP9.out, HG.out, by kernel_rfl⟩
      rintro a2 W9 ⟨tb, ab, A9, n9, c9, q9, B9, m9, d9, C9, k9, f9, rr9, ⟨hse9, hre9, -⟩, hrg, rfl⟩
      simp only [puts, Act.put, List.setIfInBounds_toArray, List.set_cons_zero, List.set_cons_succ]
      refine then_mk ?_
      have HX9 := Lib.hid (hrg.z1 _ _ rfl).2; have HY9 := Lib.hid (hrg.z2 _ _ rfl).2; have HB9 := Lib.hid hrg.bel
      have HS9 := Lib.hid (HS.out.far hrg.bel)
      have HR9' := Lib.hid hrg.d.1; have HSE9 := Lib.hid hse9; have HRE9 := Lib.hid hre9
      have hor9 := hrg.d.2
      clear hrg hse9 hre9
      have hk9 : k9 ≤ 21 := by
        have h1 := HRL.out
        rw [← HRE9.out, recsL_len, sers_length] at h1
        omega
      have HRS : Hid (RecsIn W9 C9 k9 f9 rr9) := Lib.hid (by obtain ⟨C1, f1, e1, h1⟩ := hor9.recs_in (by omega); cases e1; exact h1)
      clear hor9
      have hall : Tr.all par ⟨sers q n', fl⟩ (recsL rr9 k9) = (r.1, k9) := by rw [HRE9.out, HTE.out.1, ← HRE9.out, recsL_len]
      have HAL : Hid (Calls Try.prog 12 #[.agg #[.slice A' n' c', .int .i64 fl], .slice C9 k9 f9] W9 (StEnd W9 r.1 (.int .i64 (k9 : Int)))) := Lib.hid (by
        have h := RAll_any A' n' c' q fl C9 k9 f9 rr9 200 W9 HS9.out.srs (by omega) (by omega) hf2 HRS.out
        rw [hall] at h
        exact h)
      have s0 : W9.cell? ⟨sb, 0, none⟩ = some (.slice A' n' c') := cell_of_row _ _ _ _ _ _ HS9.out.sk
      have s1 : W9.cell? ⟨sb, 1, none⟩ = some (.int .i64 fl) := cell_of_row _ _ _ _ _ _ HS9.out.sk
      clear hall HRL HDO
      go_wp2_with fail
      clear s0 s1
      refine HAL.out.mono ?_; rintro e w10 ⟨Au, nu, cu, qu, rfl, hsu, hseu, hb10⟩
      obtain ⟨W10, hW10⟩ : ∃ W10, W10 = w10.alloc (.cells #[.slice Au nu cu, .int .i64 r.1.floor] 28) := ⟨_, rfl⟩
      have hbb : Below w10.heap.size w10 W10 := by rw [hW10]; exact (Below.refl _ _).alloc (Nat.le_refl _) _
      have HU10 : Hid (W10.heap[w10.heap.size]? = some (.cells #[.slice Au nu cu, .int .i64 r.1.floor] 28 (0, 0))) := Lib.hid (by rw [hW10]; exact heap_alloc_new w10 _)
      have HB10 := Lib.hid (below_step hb10 hbb)
      have HSU := Lib.hid (hsu.later hbb); have HSEU := Lib.hid hseu
      have t0 : w10.cell? ⟨tb, 0, none⟩ = some (.slice A9 n9 c9) := cell_of_row _ _ _ _ _ _ (heap_keep HX9.out hb10)
      have t1 : w10.cell? ⟨tb, 1, none⟩ = some (.int .i64 r.1.floor) := cell_of_row _ _ _ _ _ _ (heap_keep HX9.out hb10)
      have tl : tb < w10.heap.size := (Array.getElem?_eq_some_iff.1 (heap_keep HX9.out hb10)).1
      have HSM1 := Lib.hid (SSame_any A9 Au n9 nu c9 cu q9 qu r.1.floor r.1.floor W10 (by
        obtain ⟨A1, c1, e1, h1⟩ := (HR9'.out.far (below_step hb10 hbb)).sers
        cases e1
        exact h1) (hsu.later hbb) true ⟨fun _ => ⟨rfl, HSE9.out.trans hseu.symm⟩, fun _ => rfl⟩)
      clear hsu hseu hb10 hbb HAL
      go_wp2_with fail
      rw [← hW10]
      clear hW10 t0 t1 tl
      refine HSM1.out.mono ?_; rintro e v1 ⟨rfl, hv1⟩
      have HBV := Lib.hid (below_step HB10.out hv1)
      have HVA := Lib.hid (Valid_yes A9 n9 c9 q9 r.1.floor v1 (by
        obtain ⟨A1, c1, e1, h1⟩ := (HR9'.out.far HBV.out).sers
        cases e1
        exact h1) (by rw [HSE9.out]; exact HOK.out))
      have t0 : v1.cell? ⟨tb, 0, none⟩ = some (.slice A9 n9 c9) := cell_of_row _ _ _ _ _ _ (heap_keep HX9.out HBV.out)
      have t1 : v1.cell? ⟨tb, 1, none⟩ = some (.int .i64 r.1.floor) := cell_of_row _ _ _ _ _ _ (heap_keep HX9.out HBV.out)
      clear hv1 HSM1
      go_wp2_with fail
      clear t0 t1
      refine HVA.out.mono ?_; rintro e v2 ⟨rfl, hv2⟩
      have HV2 := Lib.hid (below_step HBV.out hv2)
      clear hv2 HVA HBV HB10 HU10 HSU HSEU
      have HSM2 : Hid (∀ b : Bool, (b = true ↔ r.1 = ⟨sers q n', fl⟩) → Calls Try.prog 13 #[.agg #[.slice A' n' c', .int .i64 fl], .agg #[.slice A9 n9 c9, .int .i64 r.1.floor]] v2 fun e w' => e = .returned (.bool b) ∧ Below v2.heap.size v2 w') := Lib.hid (fun b hb => SSame_any A' A9 n' n9 c' c9 q q9 fl r.1.floor v2 (HS9.out.far HV2.out).srs (by
        obtain ⟨A1, c1, e1, h1⟩ := (HR9'.out.far HV2.out).sers
        cases e1
        exact h1) b (hb.trans (by
          rw [HSE9.out]
          constructor
          · intro e; rw [e]; exact ⟨rfl, rfl⟩
          · rintro ⟨e1, e2⟩; rw [e1, e2])))
      have y0 : v2.cell? ⟨ab, 0, none⟩ = some (.int .i64 r.2.1.err) := cell_of_row _ _ _ _ _ _ (heap_keep HY9.out HV2.out)
      have t0 : v2.cell? ⟨tb, 0, none⟩ = some (.slice A9 n9 c9) := cell_of_row _ _ _ _ _ _ (heap_keep HX9.out HV2.out)
      have t1 : v2.cell? ⟨tb, 1, none⟩ = some (.int .i64 r.1.floor) := cell_of_row _ _ _ _ _ _ (heap_keep HX9.out HV2.out)
      have s0 : v2.cell? ⟨sb, 0, none⟩ = some (.slice A' n' c') := cell_of_row _ _ _ _ _ _ (heap_keep HS9.out.sk HV2.out)
      have s1 : v2.cell? ⟨sb, 1, none⟩ = some (.int .i64 fl) := cell_of_row _ _ _ _ _ _ (heap_keep HS9.out.sk HV2.out)
      have hlen : k9 = r.2.2.length := by rw [← HRE9.out, recsL_len]
      have HEND : Hid (∀ U, Below W9.heap.size W9 U → StAt W ((U.setCell ⟨sb, 0, none⟩ (.slice A9 n9 c9)).setCell ⟨sb, 1, none⟩ (.int .i64 r.1.floor)) sb A9 n9 c9 q9 r.1.floor ∧ U.cell? ⟨tb, 0, none⟩ = some (.slice A9 n9 c9) ∧ U.cell? ⟨tb, 1, none⟩ = some (.int .i64 r.1.floor) ∧ U.cell? ⟨sb, 0, none⟩ = some (.slice A' n' c') ∧ U.cell? ⟨sb, 1, none⟩ = some (.int .i64 fl) ∧ sb < U.heap.size ∧ U.cell? ⟨ab, 0, none⟩ = some (.int .i64 r.2.1.err) ∧ U.frozen? ⟨sb, 0, none⟩ = false ∧ U.frozen? ⟨sb, 1, none⟩ = false) := Lib.hid (fun U hU =>
        ⟨HS9.out.next hU (HR9'.out.far hU) (by rw [HSE9.out]; exact HOK.out), cell_of_row _ _ _ _ _ _ (heap_keep HX9.out hU), cell_of_row _ _ _ _ _ _ (heap_keep HX9.out hU), cell_of_row _ _ _ _ _ _ (heap_keep HS9.out.sk hU), cell_of_row _ _ _ _ _ _ (heap_keep HS9.out.sk hU), (Array.getElem?_eq_some_iff.1 (heap_keep HS9.out.sk hU)).1, cell_of_row _ _ _ _ _ _ (heap_keep HY9.out hU), frozen_of_row _ _ _ _ _ (heap_keep HS9.out.sk hU), frozen_of_row _ _ _ _ _ (heap_keep HS9.out.sk hU)⟩)
      by_cases hk0 : k9 = 0
      · have HSM3 := Lib.hid (HSM2.out true ⟨fun _ => HTE.out.2.2.1 (List.eq_nil_of_length_eq_zero (by omega)), fun _ => rfl⟩)
        clear HSM2 hlen
        subst hk0
        by_cases he : r.2.1.err = 0
        · rw [he] at y0
          go_wp2_with fail
          refine HSM3.out.mono ?_; rintro e v3 ⟨rfl, hv3⟩
          obtain ⟨hend, t0', t1', s0', s1', sl, y0', g0, g1⟩ := HEND.out v3 (below_step HV2.out hv3)
          rw [he] at y0'
          clear t0 t1 s0 s1 y0
          go_wp2_with fail
          go_roundw
          case rel => exact ⟨k + 1, A9, n9, c9, q9, r.1.floor, by omega, by go_num, hend⟩
          case measure => simp [intOf]; omega
        · have d3 : decide (r.2.1.err = 0) = false := decide_eq_false he
          go_wp2_with fail
          refine HSM3.out.mono ?_; rintro e v3 ⟨rfl, hv3⟩
          obtain ⟨hend, t0', t1', s0', s1', sl, y0', g0, g1⟩ := HEND.out v3 (below_step HV2.out hv3)
          clear t0 t1 s0 s1 y0
          go_wp2_with fail
          go_roundw
          case rel => exact ⟨k + 1, A9, n9, c9, q9, r.1.floor, by omega, by go_num, hend⟩
          case measure => simp [intOf]; omega
      · have he : r.2.1.err = 0 := Decidable.byContradiction (fun h => hk0 (by rw [hlen, HTE.out.2.1 h]; rfl))
        have HSM3 := Lib.hid (HSM2.out false ⟨fun h => (by cases h), fun h => absurd h (HTE.out.2.2.2 (fun h2 => hk0 (by rw [hlen, h2]; rfl)))⟩)
        clear HSM2 hlen
        rw [he] at y0
        have d3 : decide ((k9 : Int) = 0) = false := decide_eq_false (by omega)
        have d4 : decide (k9 = 0) = false := decide_eq_false hk0
        have d5 : decide ((0 : Int) < (k9 : Int)) = true := decide_eq_true (by omega)
        go_wp2_with fail
        refine HSM3.out.mono ?_; rintro e v3 ⟨rfl, hv3⟩
        obtain ⟨hend, t0', t1', s0', s1', sl, y0', g0, g1⟩ := HEND.out v3 (below_step HV2.out hv3)
        rw [he] at y0'
        clear t0 t1 s0 s1 y0
        go_wp2_with fail
        go_roundw
        case rel => exact ⟨k + 1, A9, n9, c9, q9, r.1.floor, by omega, by go_num, hend⟩
        case measure => simp [intOf]; omega
    · have d1 : decide ((k : Int) < (n : Int)) = false := decide_eq_false (by omega)
      go_wp2_with fail
      go_ret
      exact ⟨rfl, HS.out.bel⟩
set_option maxRecDepth 100000 in
theorem truthTells_walk {H : Type} {enc : TypeId × Value → H} {r : Reach} {b0 : Nat} {v : Value} {d : DataW H} {p : List MemPlace} {r2 : Reach} {b2 : Nat} {v2 : Value} {d2 : DataW H} {p2 : List MemPlace} (w : World)
    (hv : Value.okWide Try.prog w r b0 22 v) (h : DataW.Trod enc Try.prog w 0 (fun _ => true) true 22 v d p) (hv2 : Value.okWide Try.prog w r2 b2 23 v2) (h2 : DataW.Trod enc Try.prog w 0 (fun _ => true) true 23 v2 d2 p2) :
    Calls Try.prog 3 #[v, v2] w fun e w' => e = .returned (.bool true) ∧ Below w.heap.size w w' := by
  obtain ⟨A, n, c, o, rfl, hn, hA, ho⟩ := open_ops hv h
  obtain ⟨B, m, cm, g, rfl, -, hB⟩ := open_intl hv2 h2
  exact truthTells_walk0 w A n c hn o hA ho B m cm g hB
end Go.Proofs.Ytidfanmfibbiiaa
