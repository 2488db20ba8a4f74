import Derived.Test.YtidfanmfibbiiaaTrDc
/-
  What remove comes to: the walk.
-/
namespace Go.Proofs.Ytidfanmfibbiiaa
open Go.RowKit
theorem remove_end {w W wr : World} {b xb mb n : Nat} {sl : Value} {fl gen : Int} {o : OpAt} {q qk : Nat → SerAt} {cnt : Int} {recs : Value} {m : Nat} {rr : Nat → RecAt} (h : RemAt w W wr b xb mb n n sl fl gen o q qk cnt recs m rr) (hk : o.kind = 1) (hm : par.mok ((List.range o.mn).map o.m) = true ∧ o.t ≤ o.hi) (hn : n ≤ 1000) :
    OpEnd w b (opCells o) gen (Tr.run par ⟨sers q n, fl⟩ o.op gen) n (.returned (.int .i64 0)) wr := by
  rw [run_remove _ o gen hk, if_pos hm]
  refine ⟨rfl, sl, mb, n, qk, cnt, _, recs, h.work, ?_, by omega, fun _ => ⟨h.cn, ⟨0, q, no_ans _ _ _, rfl, by omega⟩, m, rr, h.recs, h.rl, by have := h.mle; omega⟩⟩
  have e := h.ser
  rw [List.take_of_length_le (by rw [sers_length]; exact Nat.le_refl _), List.drop_of_length_le (by rw [sers_length]; exact Nat.le_refl _), List.append_nil] at e
  rw [e]; rfl
theorem rem_skip {w W wr w2 : World} {b xb mb n k : Nat} {sl : Value} {fl gen : Int} {o : OpAt} {q qk : Nat → SerAt} {cnt : Int} {recs : Value} {m : Nat} {rr : Nat → RecAt} (h : RemAt w W wr b xb mb n k sl fl gen o q qk cnt recs m rr) (hk : k < n) (hb : Below wr.heap.size wr w2) (hf : Ma.all o.m o.mn (q k).f (q k).ln = false) : RemAt w W w2 b xb mb n (k + 1) sl fl gen o q qk cnt recs m rr := by
  have e : cutF o (q k).ser = (q k).ser := by
    unfold cutF
    rw [show par.fit ((List.range o.mn).map o.m) ((q k).ser).l = false from (par_fit _ _ _ _).trans hf]
    rfl
  refine ⟨h.work.far hb, heap_keep h.xk hb, fun j hj => h.left j (by omega), rem_same hk h.ser e, h.recs.keeps (Keeps.below (Ts := []) hb) (by decide) (by decide), ?_, by have := h.mle; omega, ?_, by have := h.cb; omega⟩
  · rw [removeR_succ, hf, h.rl]
    simp
  · rw [removeN_succ, hf, h.cn]
    simp
theorem rem_drop {w W wr w2 : World} {b xb mb n k : Nat} {sl : Value} {fl gen : Int} {o : OpAt} {q qk : Nat → SerAt} {cnt cnt2 : Int} {recs recs2 : Value} {m m2 : Nat} {rr rr2 : Nat → RecAt} (h : RemAt w W wr b xb mb n k sl fl gen o q qk cnt recs m rr) (hk : k < n) (hf : Ma.all o.m o.mn (q k).f (q k).ln = true)
    {B : Option Addr} {mm d : Nat} {s : Nat → Sam} (hs : (List.range mm).map s = Tr.without o.t o.hi ((List.range (q k).sn).map (q k).s)) (hw : Work w w2 b sl fl mb (opCells o) gen 0 cnt2 (.slice none 0 0) recs2 n (put2 qk k B mm d s (qk k).last)) (hx : w2.heap[xb]? = some (.cells (opCells o).toArray 39 (0, 0)))
    (hr : OwnRecs w2 w.heap.size recs2 m2 rr2) (hsn : (q k).sn ≤ 1000) (hmm : mm ≤ (q k).sn) (hc : cnt2 = cnt + (((q k).sn - mm : Nat) : Int)) (hm2 : m2 ≤ m + 1) (hrl : recsL rr2 m2 = recsL rr m ++ (if 0 < (q k).sn - mm then [⟨1, La.listOf (q k).f (q k).ln, o.t, o.hi, 0⟩] else [])) :
    RemAt w W w2 b xb mb n (k + 1) sl fl gen o q (put2 qk k B mm d s (qk k).last) cnt2 recs2 m2 rr2 := by
  have e0 := h.left k (Nat.le_refl k)
  have hlen : (Tr.without o.t o.hi ((List.range (q k).sn).map (q k).s)).length = mm := by rw [← hs]; simp
  have hlost : Tr.lost o.t o.hi (q k).ser = (q k).sn - mm := by
    show ((List.range (q k).sn).map (q k).s).length - (Tr.without o.t o.hi ((List.range (q k).sn).map (q k).s)).length = _
    rw [hlen]; simp
  have hcut : cutF o (q k).ser = ⟨(q k).labs, (List.range mm).map s, (q k).last⟩ := by
    unfold cutF
    rw [show par.fit ((List.range o.mn).map o.m) ((q k).ser).l = true from (par_fit _ _ _ _).trans hf, if_pos rfl, hs]
    rfl
  refine ⟨hw, hx, put2_left q qk k B mm d s _ h.left, ?_, hr, ?_, by have := h.mle; omega, ?_, ?_⟩
  · rw [sers_put2 hk, rem_ser hk h.ser _ (show _ = cutF o (q k).ser by rw [hcut, e0])]
  · rw [hrl, removeR_succ, hf, h.rl, hlost]
    simp
  · rw [removeN_succ, hf, hc, h.cn, hlost, if_pos rfl]
    omega
  · have := h.cb
    omega
/-- what is read while a removal is told -/
structure RemS (xb yb : Nat) (yc : Array Value) (o : OpAt) (U : World) : Prop where
  xk : U.heap[xb]? = some (.cells (opCells o).toArray 39 (0, 0))
  yk : U.heap[yb]? = some (.cells yc 48 (0, 0))
set_option maxRecDepth 100000 in
set_option maxHeartbeats 4000000 in
theorem remove_any {w W : World} {b mb n : Nat} {sl : Value} {fl gen : Int} {o : OpAt} {q : Nat → SerAt} (hw : Work w W b sl fl mb (opCells o) gen 0 0 (.slice none 0 0) (.slice none 0 0) n q) (ho : OpSm w o) (hk : o.kind = 1) :
    Calls Try.prog 23 #[.pointer (some ⟨b, 0, none⟩)] W (OpEnd w b (opCells o) gen (Tr.run par ⟨sers q n, fl⟩ o.op gen) n) := by
  obtain ⟨A0, c0, rfl, -⟩ := hw.rows.sers
  have hn := hw.rows.few
  have HW := Lib.hid hw; have HO := Lib.hid ho; have HK := Lib.hid hk
  have z3 : W.cell? ⟨b, 3, none⟩ = some (.int .i64 o.kind) := cell_of_row _ _ _ _ _ _ hw.wk
  have z4 : W.cell? ⟨b, 4, none⟩ = some (.slice o.la o.ln o.lc) := cell_of_row _ _ _ _ _ _ hw.wk
  have z5 : W.cell? ⟨b, 5, none⟩ = some (.slice o.ma o.mn o.mc) := cell_of_row _ _ _ _ _ _ hw.wk
  have z6 : W.cell? ⟨b, 6, none⟩ = some (.int .i64 o.t) := cell_of_row _ _ _ _ _ _ hw.wk
  have z7 : W.cell? ⟨b, 7, none⟩ = some (.int .i64 o.hi) := cell_of_row _ _ _ _ _ _ hw.wk
  have z8 : W.cell? ⟨b, 8, none⟩ = some (.int .u64 o.v) := cell_of_row _ _ _ _ _ _ hw.wk
  have z9 : W.cell? ⟨b, 9, none⟩ = some (.int .i64 o.gen) := cell_of_row _ _ _ _ _ _ hw.wk
  obtain ⟨w1, hw1⟩ : ∃ w1, w1 = W.alloc (.cells #[.int .i64 o.kind, .slice o.la o.ln o.lc, .slice o.ma o.mn o.mc, .int .i64 o.t, .int .i64 o.hi, .int .u64 o.v, .int .i64 o.gen] 39) := ⟨_, rfl⟩
  have hb1 : Below W.heap.size W w1 := by rw [hw1]; exact (Below.refl _ _).alloc (Nat.le_refl _) _
  have HX1 : Hid (w1.heap[W.heap.size]? = some (.cells (opCells o).toArray 39 (0, 0))) := Lib.hid (by rw [hw1]; exact heap_alloc_new W _)
  have HW1 := Lib.hid (hw.far hb1)
  have HAS := Lib.hid (asked_any HW1.out (ho.mats.later HW1.out.bel) (Nat.le_trans ho.mfew (by decide)) (fun i hi => ⟨size_max (ho.msz i hi).1, size_max (ho.msz i hi).2⟩))
  have HAE := Lib.hid (askedE_eq o)
  obtain ⟨xb, hxb⟩ : ∃ xb, xb = W.heap.size := ⟨_, rfl⟩
  rw [← hxb] at HX1
  clear hw ho hb1 hk
  go_enter Try.func23, Try.ntmps23
  go_wp2_with fail
  rw [← hw1, ← hxb]
  clear hw1 hxb z3 z4 z5 z6 z7 z8 z9
  refine HAS.out.mono ?_; rintro e w2 ⟨rfl, hb2⟩
  have HW2 := Lib.hid (HW1.out.far hb2)
  have HX2 := Lib.hid (heap_keep HX1.out hb2)
  clear hb2 HAS
  by_cases hmok : par.mok ((List.range o.mn).map o.m) = true ∧ o.t ≤ o.hi
  · have hae : askedE o = 0 := by rw [HAE.out, if_pos hmok]
    rw [hae]
    have HM := Lib.hid hmok
    have z0 : w2.cell? ⟨b, 0, none⟩ = some (.slice A0 n c0) := cell_of_row _ _ _ _ _ _ HW2.out.wk
    have HST : Hid (RemAt w W w2 b xb mb n 0 (.slice A0 n c0) fl gen o q q 0 (.slice none 0 0) 0 (fun _ => rec2 0)) := Lib.hid ⟨HW2.out, HX2.out, fun j _ => rfl, rfl, no_recs _ _ _, rfl, by omega, rfl, by omega⟩
    clear hmok hae
    go_wp2_with fail
    go_loopw [5, 6, 7, 23] (fun _ _ _ i wr => ∃ (k : Nat) (qk : Nat → SerAt) (cnt : Int) (recs : Value) (m : Nat) (rr : Nat → RecAt), k ≤ n ∧ i = .int .i64 k ∧ RemAt w W wr b xb mb n k (.slice A0 n c0) fl gen o q qk cnt recs m rr) (fun _ _ _ i _ => n - (intOf i).toNat)
    case atStart => exact ⟨0, q, 0, _, 0, _, by omega, rfl, HST.out⟩
    case round =>
      obtain ⟨k, qk, cnt, recs, m, rr, hkn, rfl, hrem⟩ := hrel
      have HR := Lib.hid hrem; clear hrem HST z0
      have i0 : (0 : Int) ≤ (k : Int) := Int.natCast_nonneg _
      by_cases hlt : k < n
      · obtain ⟨g, rfl⟩ := own_lit HR.out.work.rows.own (by omega)
        have i1 : (k : Int) < (n : Int) := by omega
        have d1 : decide ((k : Int) < (n : Int)) = true := decide_eq_true i1
        have e0 := HR.out.left k (Nat.le_refl k)
        have x0 : wr.cell? ⟨g, k * 3, none⟩ = some (.slice (q k).la (q k).ln (q k).lc) := by rw [← e0]; exact HR.out.work.rows.cells hlt 0 (by omega)
        have x1 : wr.cell? ⟨g, k * 3 + 1, none⟩ = some (.slice (q k).sa (q k).sn (q k).sc) := by rw [← e0]; exact HR.out.work.rows.cells hlt 1 (by omega)
        have x2 : wr.cell? ⟨g, k * 3 + 2, none⟩ = some (.int .i64 (q k).last) := by rw [← e0]; exact HR.out.work.rows.cells hlt 2 (by omega)
        have y2 : wr.cell? ⟨xb, 2, none⟩ = some (.slice o.ma o.mn o.mc) := cell_of_row _ _ 2 _ _ _ HR.out.xk
        obtain ⟨w8, hw8⟩ : ∃ w8, w8 = wr.alloc (.cells #[.slice (q k).la (q k).ln (q k).lc, .slice (q k).sa (q k).sn (q k).sc, .int .i64 (q k).last] 48) := ⟨_, rfl⟩
        have hb8 : Below wr.heap.size wr w8 := by rw [hw8]; exact (Below.refl _ _).alloc (Nat.le_refl _) _
        have HY8 : Hid (w8.heap[wr.heap.size]? = some (.cells #[.slice (q k).la (q k).ln (q k).lc, .slice (q k).sa (q k).sn (q k).sc, .int .i64 (q k).last] 48 (0, 0))) := Lib.hid (by rw [hw8]; exact heap_alloc_new wr _)
        have HB8 := Lib.hid hb8
        have hE : OwnSer w8 w.heap.size (q k) := by rw [← e0]; exact (HR.out.work.rows.each k hlt).far hb8
        have HAL := Lib.hid (All_any o.ma o.mn o.mc (Nat.le_trans HO.out.mfew (by decide)) o.m (q k).la (q k).ln (q k).lc (Nat.le_trans hE.lfew (by decide)) (q k).f w8 (HO.out.mats.later (below_step HR.out.work.bel hb8)) hE.ser_in.labs)
        have HE := Lib.hid hE
        have hsf := hE.sfew
        obtain ⟨yb, hyb⟩ : ∃ yb, yb = wr.heap.size := ⟨_, rfl⟩
        have HYB := Lib.hid hyb
        rw [← hyb] at HY8
        have HE0 := Lib.hid e0
        have hxl : xb < wr.heap.size := (Array.getElem?_eq_some_iff.1 HR.out.xk).1
        clear hE e0 hb8
        go_wp2_with fail
        rw [← hw8, ← hyb]
        clear hw8 hyb x0 x1 x2 y2 hxl
        refine HAL.out.mono ?_; rintro e w9 ⟨rfl, hb9⟩
        have HB9 := Lib.hid (below_step HB8.out hb9)
        have HY9 := Lib.hid (heap_keep HY8.out hb9)
        have HE9 := Lib.hid (HE.out.far hb9)
        clear hb9 HAL HY8
        cases hall : Ma.all o.m o.mn (q k).f (q k).ln
        · have HN := Lib.hid (rem_skip HR.out hlt HB9.out hall)
          clear hall
          go_wp2_with fail
          go_roundw
          case rel => exact ⟨k + 1, qk, cnt, recs, m, rr, by omega, by go_num, HN.out⟩
          case measure => simp [intOf]; omega
        · have HAA := Lib.hid hall
          clear hall
          have HW9 := Lib.hid (HR.out.work.far HB9.out)
          have HX9 := Lib.hid (heap_keep HR.out.xk HB9.out)
          have v3 : w9.cell? ⟨xb, 3, none⟩ = some (.int .i64 o.t) := cell_of_row _ _ 3 _ _ _ HX9.out
          have v4 : w9.cell? ⟨xb, 4, none⟩ = some (.int .i64 o.hi) := cell_of_row _ _ 4 _ _ _ HX9.out
          have HDR := Lib.hid (drop_any HW9.out k hlt o.t o.hi)
          go_wp2_with fail
          refine HDR.out.mono ?_; rintro e w10 ⟨B, mm, d, s, rfl, hmm, hs, hw10, hg10⟩
          have hk10 : Keeps [48] w9 w10 := Keeps.own HW9.out.rows.own (by simp) hg10
          have HX10 := Lib.hid (hk10 _ _ HX9.out (fun cs T fr e => by cases e; decide))
          have HR10 := Lib.hid (((HR.out.recs.keeps (Keeps.below (Ts := []) HB9.out) (by decide) (by decide)).keeps hk10 (by decide) (by decide)))
          have HE10 := Lib.hid (row_keeps HE9.out.labo hk10 (by decide))
          have HS10 := Lib.hid hs; have HW10 := Lib.hid hw10; have HMM := Lib.hid hmm
          have e0 := HE0.out
          have hmm2 : mm ≤ (q k).sn := by rw [← e0]; exact hmm
          have hs2 : (List.range mm).map s = Tr.without o.t o.hi ((List.range (q k).sn).map (q k).s) := by rw [hs, e0]
          have HS2 := Lib.hid hs2
          have hsn : (qk k).sn = (q k).sn := by rw [e0]
          rw [hsn]
          have HY10 : Hid (w10.heap[yb]? = some (.cells #[.slice (q k).la (q k).ln (q k).lc, .slice (q k).sa (q k).sn (q k).sc, .int .i64 (q k).last] 48 (0, 0))) := Lib.hid ((hg10.block yb (Array.getElem?_eq_some_iff.1 HY9.out).1 (fun e => by
            have h1 := (HR.out.work.rows.own.lt g rfl).2
            have h2 := HYB.out
            cases e
            omega)).trans HY9.out)
          clear hs hw10 hk10 hg10 hmm v3 v4 hs2 hsn e0 HDR HB9 HW9 HX9 HB8
          by_cases hlt2 : mm < (q k).sn
          · have HLL := Lib.hid hlt2
            obtain ⟨lo, hlo⟩ : ∃ lo : Nat, lo = (q k).sn - mm := ⟨_, rfl⟩
            have hlo2 : ((q k).sn : Int) - (mm : Int) = (lo : Int) := by omega
            have hlp : (0 : Int) < (lo : Int) := by omega
            have hl1 : lo ≤ 1000 := by omega
            rw [hlo2]
            have HLO := Lib.hid hlo
            clear hlo2 hlo hlt2 hmm2
            go_wp2_with fail
            refine plain_T (RemS xb yb #[.slice (q k).la (q k).ln (q k).lc, .slice (q k).sa (q k).sn (q k).sc, .int .i64 (q k).last] o) [10] (by kernel_rfl) ?_
            have HBD : Hid (Below w10.heap.size w10 w10.drew) := Lib.hid (Below.refl _ _).drew
            generalize w10.drew = wd at HBD ⊢
            have HSD : Hid ((RemS xb yb #[.slice (q k).la (q k).ln (q k).lc, .slice (q k).sa (q k).sn (q k).sc, .int .i64 (q k).last] o) wd) := Lib.hid ⟨heap_keep HX10.out HBD.out, heap_keep HY10.out HBD.out⟩
            refine wpAnyT_pick (S := (RemS xb yb #[.slice (q k).la (q k).ln (q k).lc, .slice (q k).sa (q k).sn (q k).sc, .int .i64 (q k).last] o)) (by kernel_rfl) Only.panic Only.keepsIn (w := wd) HSD.out [0, 1, 2, 3, 5, 6, 7, 8] 3 _ _ (by kernel_rfl) ?_
            refine PickT.value (d := some 43) (.pointer (some ⟨b, 0, none⟩)) rfl rfl (by kernel_rfl) (fun U hU => (by go_simp)) ?_
            refine PickT.value (d := some 44) (.int .i64 (lo : Int)) rfl rfl (by kernel_rfl) (fun U hU => (by go_simp)) ?_
            refine PickT.value (d := some 45) (.pointer (some ⟨yb, 0, none⟩)) rfl rfl (by kernel_rfl) (fun U hU => (by go_simp)) ?_
            refine PickT.value (d := some 46) (.slice (q k).la (q k).ln (q k).lc) rfl rfl (by kernel_rfl) (fun U hU => (by have h0 : U.cell? ⟨yb, 0, none⟩ = some (.slice (q k).la (q k).ln (q k).lc) := cell_of_row _ _ 0 _ _ _ hU.yk; go_simp)) ?_
            refine PickT.value (d := some 48) (.pointer (some ⟨xb, 3, none⟩)) rfl rfl (by kernel_rfl) (fun U hU => (by go_simp)) ?_
            refine PickT.value (d := some 49) (.int .i64 o.t) rfl rfl (by kernel_rfl) (fun U hU => (by have h0 : U.cell? ⟨xb, 3, none⟩ = some (.int .i64 o.t) := cell_of_row _ _ 3 _ _ _ hU.xk; go_simp)) ?_
            refine PickT.value (d := some 50) (.pointer (some ⟨xb, 4, none⟩)) rfl rfl (by kernel_rfl) (fun U hU => (by go_simp)) ?_
            refine PickT.value (d := some 51) (.int .i64 o.hi) rfl rfl (by kernel_rfl) (fun U hU => (by have h0 : U.cell? ⟨xb, 4, none⟩ = some (.int .i64 o.hi) := cell_of_row _ _ 4 _ _ _ hU.xk; go_simp)) ?_
            simp only [PickT, Act.put, List.setIfInBounds_toArray, List.set_cons_zero, List.set_cons_succ]
            refine wpAnyT_one (i := 4) (by kernel_rfl) rfl (by kernel_rfl) ?_
            intro K hK
            unfold Oper.wp
            go_simp
            have HLB := Lib.hid (own_row (row_far HE10.out HBD.out))
            refine (cloneL_any (q k).la (q k).ln (q k).lc HE.out.lfew HE.out.ser_in.lnone (lx (q k).f) (lx_one _) wd (by
              obtain ⟨A, c, e, -, -, -, h2⟩ := HLB.out
              cases e
              exact h2)).mono ?_
            rintro e w11 ⟨v11, rfl, hown11, hb11⟩
            obtain ⟨A11, c11, rfl, -, -, -, -⟩ := own_row hown11
            have HB11 := Lib.hid (below_step HBD.out hb11)
            have HS11 : Hid ((RemS xb yb #[.slice (q k).la (q k).ln (q k).lc, .slice (q k).sa (q k).sn (q k).sc, .int .i64 (q k).last] o) w11) := Lib.hid ⟨heap_keep HX10.out HB11.out, heap_keep HY10.out HB11.out⟩
            have HW11 := Lib.hid (HW10.out.far HB11.out)
            have HOR : Hid (OwnRec w11 w.heap.size ⟨1, A11, (q k).ln, c11, (q k).f, o.t, o.hi, 0⟩) := Lib.hid ⟨own_from hown11 (Nat.le_trans HW10.out.bel.size HBD.out.size), HE.out.lsize, HE.out.lfew⟩
            have HR11 := Lib.hid (HR10.out.keeps (Keeps.below (Ts := []) HB11.out) (by decide) (by decide))
            clear hown11 hb11
            refine hK _ _ (fun _ => HS11.out) ?_
            clear hK K
            refine wpAnyT_pick (S := (RemS xb yb #[.slice (q k).la (q k).ln (q k).lc, .slice (q k).sa (q k).sn (q k).sc, .int .i64 (q k).last] o)) (by kernel_rfl) Only.panic Only.keepsIn (w := w11) HS11.out [9] 1 _ _ (by kernel_rfl) ?_
            refine PickT.value (d := some 52) (.agg #[.int .i64 1, .slice A11 (q k).ln c11, .int .i64 o.t, .int .i64 o.hi, .int .u64 0]) rfl rfl (by kernel_rfl) (fun U hU => (by go_simp)) ?_
            simp only [PickT, Act.put, List.setIfInBounds_toArray, List.set_cons_zero, List.set_cons_succ]
            have hc0 : 0 ≤ cnt := by rw [HR.out.cn]; exact Int.natCast_nonneg _
            have hcb := HR.out.cb
            have hml := HR.out.mle
            have HT := Lib.hid (tell_any HW11.out HR11.out (by omega) ⟨1, A11, (q k).ln, c11, (q k).f, o.t, o.hi, 0⟩ HOR.out (lo : Int) (by omega) (by omega) hc0 (by omega) rfl)
            refine wpAnyT_one (i := 10) (by kernel_rfl) rfl (by kernel_rfl) ?_
            intro K hK
            unfold Oper.wp
            go_simp
            refine HT.out.mono ?_; rintro e w12 ⟨recs12, rfl, hw12, hr12, hk12⟩
            have HX12 := Lib.hid (hk12 _ _ HS11.out.xk (fun cs T fr e => by cases e; decide))
            have HN := Lib.hid (rem_drop (cnt2 := cnt + (lo : Int)) HR.out hlt HAA.out HS2.out hw12 HX12.out hr12 hsf (Nat.le_of_lt HLL.out) (by rw [HLO.out]) (Nat.le_refl _) (by rw [recsL_put, if_pos (by have := HLL.out; omega)]; rfl))
            clear hw12 hr12 hk12
            refine hK _ _ (fun h => absurd h (by decide)) ?_
            clear hK K
            refine wpAnyT_done (by kernel_rfl) ?_ _
            refine only_mk ?_
            go_wp2_with fail
            go_roundw
            case rel => exact ⟨k + 1, _, _, recs12, m + 1, _, by omega, by go_num, HN.out⟩
            case measure => simp [intOf]; omega
          · have hle : mm = (q k).sn := by omega
            have hz : ((q k).sn : Int) - (mm : Int) = 0 := by omega
            rw [hz]
            have HN := Lib.hid (rem_drop (cnt2 := cnt) HR.out hlt HAA.out HS2.out HW10.out HX10.out HR10.out hsf hmm2 (by omega) (Nat.le_succ m) (by rw [if_neg (by omega), List.append_nil]))
            clear hle hz hlt2 hmm2
            go_wp2_with fail
            go_roundw
            case rel => exact ⟨k + 1, _, cnt, recs, m, rr, by omega, by go_num, HN.out⟩
            case measure => simp [intOf]; omega
      · have hkk : k = n := by omega
        have d1 : decide ((k : Int) < (n : Int)) = false := decide_eq_false (by omega)
        have HFIN : Hid (OpEnd w b (opCells o) gen (Tr.run par ⟨sers q n, fl⟩ o.op gen) n (.returned (.int .i64 0)) wr) := Lib.hid (remove_end (by rw [hkk] at HR; exact HR.out) HK.out HM.out hn)
        clear hkk
        go_wp2_with fail
        go_ret
        exact HFIN.out
  · have hae : askedE o = 1 := by rw [HAE.out, if_neg hmok]
    rw [hae]
    have HFIN : Hid (OpEnd w b (opCells o) gen (Tr.run par ⟨sers q n, fl⟩ o.op gen) n (.returned (.int .i64 1)) w2) := Lib.hid (by
      rw [run_remove _ o gen HK.out, if_neg hmok]
      exact ⟨rfl, _, mb, n, q, 0, _, _, HW2.out, rfl, by omega, fun h => absurd (show (1 : Int) = 0 from h) (by decide)⟩)
    clear hmok hae
    go_wp2_with fail
    go_ret
    exact HFIN.out
end Go.Proofs.Ytidfanmfibbiiaa
/-
  What ask comes to.
-/
namespace Go.Proofs.Ytidfanmfibbiiaa
open Go.RowKit
theorem grown_over {W wa w2 : World} {row row2 : Option Nat} (h : W.grownBy wa row) (h2 : wa.grownBy w2 row2) (hr : ∀ r, row2 = some r → W.heap.size ≤ r) : W.grownBy w2 row :=
  ⟨h2.os.trans h.os, h2.tape.trans h.tape, h2.output.trans h.output, Nat.le_trans h.size h2.size, fun k hk hne => (h2.block k (Nat.lt_of_lt_of_le hk h.size) (fun e => by have := hr k e.symm; omega)).trans (h.block k hk hne)⟩
theorem askS_succ (o : OpAt) (q : Nat → SerAt) (k : Nat) : Tr.askS par ((List.range o.mn).map o.m) o.t o.hi (sers q (k + 1)) = Tr.askS par ((List.range o.mn).map o.m) o.t o.hi (sers q k) ++ (if Ma.all o.m o.mn (q k).f (q k).ln && !(Tr.within o.t o.hi ((List.range (q k).sn).map (q k).s)).isEmpty then [⟨(q k).labs, Tr.within o.t o.hi ((List.range (q k).sn).map (q k).s), 0⟩] else []) := by
  rw [sers_succ]
  unfold Tr.askS
  rw [List.filterMap_append]
  congr 1
  have e : par.fit ((List.range o.mn).map o.m) ((q k).ser).l = Ma.all o.m o.mn (q k).f (q k).ln := par_fit _ _ _ _
  rw [List.filterMap_cons, List.filterMap_nil, e]
  split <;> simp_all [SerAt.ser]
/-- what holds while series are asked -/
structure AskAt (w W wr : World) (b xb mb n k : Nat) (sl : Value) (fl gen : Int) (o : OpAt) (q : Nat → SerAt) (ans : Value) (an : Nat) (aq : Nat → SerAt) : Prop where
  gr : W.grownBy wr (some b)
  wk : wr.heap[b]? = some (.cells (workCells sl fl (.map (some mb)) (opCells o) gen 0 0 ans (.slice none 0 0)) 70 (0, 0))
  xk : wr.heap[xb]? = some (.cells (opCells o).toArray 39 (0, 0))
  ans : Raised wr w.heap.size W.heap.size ans an aq
  ser : sers aq an = Tr.askS par ((List.range o.mn).map o.m) o.t o.hi (sers q k)
  few : an ≤ k
theorem AskAt.work {w W wr : World} {b xb mb n k : Nat} {sl : Value} {fl gen : Int} {o : OpAt} {q : Nat → SerAt} {ans : Value} {an : Nat} {aq : Nat → SerAt} (h : AskAt w W wr b xb mb n k sl fl gen o q ans an aq) (hw : Work w W b sl fl mb (opCells o) gen 0 0 (.slice none 0 0) (.slice none 0 0) n q) : Work w wr b sl fl mb (opCells o) gen 0 0 ans (.slice none 0 0) n q :=
  ⟨hw.bel.grown h.gr hw.bel.size (fun r e => by cases e; exact hw.lo), hw.lo, h.wk, hw.rows.kept hw.wk (by decide) (by decide) (by decide) h.gr, hw.mlo, hw.map.kept h.gr (fun e => by
    cases e
    obtain ⟨es, clock, hm, -⟩ := hw.map
    have := hw.wk
    rw [hm] at this
    cases this)⟩
theorem AskAt.skip {w W wr w2 : World} {b xb mb n k : Nat} {sl : Value} {fl gen : Int} {o : OpAt} {q : Nat → SerAt} {ans : Value} {an : Nat} {aq : Nat → SerAt} (h : AskAt w W wr b xb mb n k sl fl gen o q ans an aq) (hb : Below wr.heap.size wr w2) (hf : (Ma.all o.m o.mn (q k).f (q k).ln && !(Tr.within o.t o.hi ((List.range (q k).sn).map (q k).s)).isEmpty) = false) : AskAt w W w2 b xb mb n (k + 1) sl fl gen o q ans an aq :=
  ⟨grown_trans h.gr (grown_of_below hb), heap_keep h.wk hb, heap_keep h.xk hb, h.ans.far hb, by rw [askS_succ, hf, h.ser]; simp, by have := h.few; omega⟩
theorem ask_end {w W wr : World} {b xb mb n : Nat} {sl : Value} {fl gen : Int} {o : OpAt} {q : Nat → SerAt} {ans : Value} {an : Nat} {aq : Nat → SerAt} (h : AskAt w W wr b xb mb n n sl fl gen o q ans an aq) (hw : Work w W b sl fl mb (opCells o) gen 0 0 (.slice none 0 0) (.slice none 0 0) n q) (hk : o.kind = 3) (hm : par.mok ((List.range o.mn).map o.m) = true ∧ o.t ≤ o.hi) (hn : n ≤ 1000) :
    OpEnd w b (opCells o) gen (Tr.run par ⟨sers q n, fl⟩ o.op gen) n (.returned (.int .i64 0)) wr := by
  rw [run_ask _ o gen hk, if_pos hm]
  exact ⟨rfl, sl, mb, n, q, 0, ans, _, h.work hw, rfl, by omega, fun _ => ⟨rfl, ⟨an, aq, ⟨own_from h.ans.own hw.bel.size, h.ans.each, h.ans.apart⟩, h.ser, by have := h.few; omega⟩, 0, fun _ => rec2 0, no_recs _ _ _, rfl, by omega⟩⟩
/-- one more series in an answer -/
def ansS (x : SerAt) (A : Option Addr) (c : Nat) (B : Option Addr) (m d : Nat) (s : Nat → Sam) : SerAt := ⟨A, x.ln, c, x.f, B, m, d, s, 0⟩
set_option maxRecDepth 100000 in
set_option maxHeartbeats 4000000 in
theorem ask_any {w W : World} {b mb n : Nat} {sl : Value} {fl gen : Int} {o : OpAt} {q : Nat → SerAt} (hw : Work w W b sl fl mb (opCells o) gen 0 0 (.slice none 0 0) (.slice none 0 0) n q) (ho : OpSm w o) (hk : o.kind = 3) :
    Calls Try.prog 25 #[.pointer (some ⟨b, 0, none⟩)] W (OpEnd w b (opCells o) gen (Tr.run par ⟨sers q n, fl⟩ o.op gen) n) := by
  obtain ⟨A0, c0, rfl, -⟩ := hw.rows.sers
  have hn := hw.rows.few
  have HW := Lib.hid hw; have HO := Lib.hid ho; have HK := Lib.hid hk
  have z3 : W.cell? ⟨b, 3, none⟩ = some (.int .i64 o.kind) := cell_of_row _ _ _ _ _ _ hw.wk
  have z4 : W.cell? ⟨b, 4, none⟩ = some (.slice o.la o.ln o.lc) := cell_of_row _ _ _ _ _ _ hw.wk
  have z5 : W.cell? ⟨b, 5, none⟩ = some (.slice o.ma o.mn o.mc) := cell_of_row _ _ _ _ _ _ hw.wk
  have z6 : W.cell? ⟨b, 6, none⟩ = some (.int .i64 o.t) := cell_of_row _ _ _ _ _ _ hw.wk
  have z7 : W.cell? ⟨b, 7, none⟩ = some (.int .i64 o.hi) := cell_of_row _ _ _ _ _ _ hw.wk
  have z8 : W.cell? ⟨b, 8, none⟩ = some (.int .u64 o.v) := cell_of_row _ _ _ _ _ _ hw.wk
  have z9 : W.cell? ⟨b, 9, none⟩ = some (.int .i64 o.gen) := cell_of_row _ _ _ _ _ _ hw.wk
  obtain ⟨w1, hw1⟩ : ∃ w1, w1 = W.alloc (.cells #[.int .i64 o.kind, .slice o.la o.ln o.lc, .slice o.ma o.mn o.mc, .int .i64 o.t, .int .i64 o.hi, .int .u64 o.v, .int .i64 o.gen] 39) := ⟨_, rfl⟩
  have hb1 : Below W.heap.size W w1 := by rw [hw1]; exact (Below.refl _ _).alloc (Nat.le_refl _) _
  have HX1 : Hid (w1.heap[W.heap.size]? = some (.cells (opCells o).toArray 39 (0, 0))) := Lib.hid (by rw [hw1]; exact heap_alloc_new W _)
  have HW1 := Lib.hid (hw.far hb1)
  have HB1 := Lib.hid hb1
  have HAS := Lib.hid (asked_any HW1.out (ho.mats.later HW1.out.bel) (Nat.le_trans ho.mfew (by decide)) (fun i hi => ⟨size_max (ho.msz i hi).1, size_max (ho.msz i hi).2⟩))
  have HAE := Lib.hid (askedE_eq o)
  obtain ⟨xb, hxb⟩ : ∃ xb, xb = W.heap.size := ⟨_, rfl⟩
  rw [← hxb] at HX1
  clear hw ho hb1 hk
  go_enter Try.func25, Try.ntmps25
  go_wp2_with fail
  rw [← hw1, ← hxb]
  clear hw1 hxb z3 z4 z5 z6 z7 z8 z9
  refine HAS.out.mono ?_; rintro e w2 ⟨rfl, hb2⟩
  have HW2 := Lib.hid (HW1.out.far hb2)
  have HX2 := Lib.hid (heap_keep HX1.out hb2)
  have HB2 := Lib.hid (below_step HB1.out hb2)
  clear hb2 HAS
  by_cases hmok : par.mok ((List.range o.mn).map o.m) = true ∧ o.t ≤ o.hi
  · have hae : askedE o = 0 := by rw [HAE.out, if_pos hmok]
    rw [hae]
    have HM := Lib.hid hmok
    have z0 : w2.cell? ⟨b, 0, none⟩ = some (.slice A0 n c0) := cell_of_row _ _ _ _ _ _ HW2.out.wk
    have HST : Hid (AskAt w W w2 b xb mb n 0 (.slice A0 n c0) fl gen o q (.slice none 0 0) 0 q) := Lib.hid ⟨grown_of_below HB2.out, HW2.out.wk, HX2.out, ⟨World.ownsRow_nil _ _ _ _, fun i hi => by omega, fun i j hi => by omega⟩, rfl, by omega⟩
    clear hmok hae
    go_wp2_with fail
    go_loopw [6, 7, 23] (fun _ _ i wr => ∃ (k : Nat) (ans : Value) (an : Nat) (aq : Nat → SerAt), k ≤ n ∧ i = .int .i64 k ∧ AskAt w W wr b xb mb n k (.slice A0 n c0) fl gen o q ans an aq) (fun _ _ i _ => n - (intOf i).toNat)
    case atStart => exact ⟨0, _, 0, q, by omega, rfl, HST.out⟩
    case round =>
      obtain ⟨k, ans, an, aq, hkn, rfl, hask⟩ := hrel
      have HR := Lib.hid hask; clear hask HST z0
      have HWR := Lib.hid (HR.out.work HW.out)
      have i0 : (0 : Int) ≤ (k : Int) := Int.natCast_nonneg _
      by_cases hlt : k < n
      · obtain ⟨g, rfl⟩ := own_lit HWR.out.rows.own (by omega)
        have i1 : (k : Int) < (n : Int) := by omega
        have d1 : decide ((k : Int) < (n : Int)) = true := decide_eq_true i1
        have x0 : wr.cell? ⟨g, k * 3, none⟩ = some (.slice (q k).la (q k).ln (q k).lc) := HWR.out.rows.cells hlt 0 (by omega)
        have x1 : wr.cell? ⟨g, k * 3 + 1, none⟩ = some (.slice (q k).sa (q k).sn (q k).sc) := HWR.out.rows.cells hlt 1 (by omega)
        have x2 : wr.cell? ⟨g, k * 3 + 2, none⟩ = some (.int .i64 (q k).last) := HWR.out.rows.cells hlt 2 (by omega)
        have y2 : wr.cell? ⟨xb, 2, none⟩ = some (.slice o.ma o.mn o.mc) := cell_of_row _ _ 2 _ _ _ HR.out.xk
        obtain ⟨w8, hw8⟩ : ∃ w8, w8 = wr.alloc (.cells #[.slice (q k).la (q k).ln (q k).lc, .slice (q k).sa (q k).sn (q k).sc, .int .i64 (q k).last] 48) := ⟨_, rfl⟩
        have hb8 : Below wr.heap.size wr w8 := by rw [hw8]; exact (Below.refl _ _).alloc (Nat.le_refl _) _
        have HY8 : Hid (w8.heap[wr.heap.size]? = some (.cells #[.slice (q k).la (q k).ln (q k).lc, .slice (q k).sa (q k).sn (q k).sc, .int .i64 (q k).last] 48 (0, 0))) := Lib.hid (by rw [hw8]; exact heap_alloc_new wr _)
        have HB8 := Lib.hid hb8
        have HE := Lib.hid ((HWR.out.rows.each k hlt).far hb8)
        have HAL := Lib.hid (All_any o.ma o.mn o.mc (Nat.le_trans HO.out.mfew (by decide)) o.m (q k).la (q k).ln (q k).lc (Nat.le_trans HE.out.lfew (by decide)) (q k).f w8 (HO.out.mats.later (below_step HWR.out.bel hb8)) HE.out.ser_in.labs)
        have hsf := HE.out.sfew
        obtain ⟨yb, hyb⟩ : ∃ yb, yb = wr.heap.size := ⟨_, rfl⟩
        have HYB := Lib.hid hyb
        rw [← hyb] at HY8
        have hxl : xb < wr.heap.size := (Array.getElem?_eq_some_iff.1 HR.out.xk).1
        clear hb8
        go_wp2_with fail
        rw [← hw8, ← hyb]
        clear hw8 hyb x0 x1 x2 y2 hxl
        refine HAL.out.mono ?_; rintro e w9 ⟨rfl, hb9⟩
        have HB9 := Lib.hid (below_step HB8.out hb9)
        have HY9 := Lib.hid (heap_keep HY8.out hb9)
        have HE9 := Lib.hid (HE.out.far hb9)
        clear hb9 HAL HY8 HE
        cases hall : Ma.all o.m o.mn (q k).f (q k).ln
        · have HN := Lib.hid (HR.out.skip HB9.out (by rw [hall]; rfl))
          clear hall
          go_wp2_with fail
          go_roundw
          case rel => exact ⟨k + 1, ans, an, aq, by omega, by go_num, HN.out⟩
          case measure => simp [intOf]; omega
        · have HAA := Lib.hid hall
          clear hall
          have HX9 := Lib.hid (heap_keep HR.out.xk HB9.out)
          have v3 : w9.cell? ⟨xb, 3, none⟩ = some (.int .i64 o.t) := cell_of_row _ _ 3 _ _ _ HX9.out
          have v4 : w9.cell? ⟨xb, 4, none⟩ = some (.int .i64 o.hi) := cell_of_row _ _ 4 _ _ _ HX9.out
          have u1 : w9.cell? ⟨yb, 1, none⟩ = some (.slice (q k).sa (q k).sn (q k).sc) := cell_of_row _ _ 1 _ _ _ HY9.out
          have HBT := Lib.hid (Between_any (q k).sa (q k).sn (q k).sc (by omega) (q k).s o.t o.hi w9 HE9.out.ser_in.sams)
          go_wp2_with fail
          refine HBT.out.mono ?_; rintro e w10 ⟨v10, rfl, hown10, hb10⟩
          have hsl := sel_few (fun i => Ma.inT o.t o.hi ((q k).s i).t) (q k).sn
          have hsw := sel_within (q k).s o.t o.hi (q k).sn
          have hsm := sel_map (s := (q k).s) (Ma.sel (fun i => Ma.inT o.t o.hi ((q k).s i).t) (q k).sn)
          rw [sel_cells] at hown10
          generalize Ma.sel (fun i => Ma.inT o.t o.hi ((q k).s i).t) (q k).sn = L at *
          obtain ⟨B, d, rfl, -, -, -, -⟩ := own_row hown10
          have HO10 := Lib.hid hown10; have HSW := Lib.hid hsw; have HSM := Lib.hid hsm
          have HB10 := Lib.hid (below_step HB9.out hb10)
          have HX10 := Lib.hid (heap_keep HX9.out hb10)
          have HY10 := Lib.hid (heap_keep HY9.out hb10)
          have HE10 := Lib.hid (HE9.out.far hb10)
          have HZ10 : Hid (w9.heap.size ≤ w10.heap.size) := Lib.hid hb10.size
          have HZ9 : Hid (wr.heap.size ≤ w9.heap.size) := Lib.hid HB9.out.size
          clear hown10 hsw hsm hb10 v3 v4 u1 HBT HX9 HY9 HE9 HB9 HB8
          by_cases hL : 0 < L.length
          · have b0 : decide ((0 : Int) < (L.length : Int)) = true := decide_eq_true (by omega)
            have HYES : Hid ((Ma.all o.m o.mn (q k).f (q k).ln && !(Tr.within o.t o.hi ((List.range (q k).sn).map (q k).s)).isEmpty) = true) := Lib.hid (by
              rw [HAA.out, ← HSW.out]
              cases L with
              | nil => simp at hL
              | cons a l => rfl)
            have hl10 : L.length ≤ 1000 := by omega
            clear hsl
            go_wp2_with fail
            clear hL
            refine plain_T (Two w b yb (workCells (.slice (some ⟨g, 0, none⟩) n c0) fl (.map (some mb)) (opCells o) gen 0 0 ans (.slice none 0 0)) #[.slice (q k).la (q k).ln (q k).lc, .slice (q k).sa (q k).sn (q k).sc, .int .i64 (q k).last] 70 48) [16] (by kernel_rfl) ?_
            have HBD : Hid (Below wr.heap.size wr w10.drew) := Lib.hid HB10.out.drew
            have HOD := Lib.hid (row_far HO10.out (Below.refl w10.heap.size w10).drew)
            have HED := Lib.hid (HE10.out.far (Below.refl w10.heap.size w10).drew)
            have HYD := Lib.hid (heap_keep HY10.out (Below.refl w10.heap.size w10).drew)
            have HZD : Hid (w9.heap.size ≤ w10.drew.heap.size) := Lib.hid (by have := HZ10.out; simp; omega)
            generalize w10.drew = wd at HBD HOD HED HYD HZD ⊢
            have HSD : Hid (Two w b yb (workCells (.slice (some ⟨g, 0, none⟩) n c0) fl (.map (some mb)) (opCells o) gen 0 0 ans (.slice none 0 0)) #[.slice (q k).la (q k).ln (q k).lc, .slice (q k).sa (q k).sn (q k).sc, .int .i64 (q k).last] 70 48 wd) := Lib.hid ⟨below_step HWR.out.bel HBD.out, heap_keep HWR.out.wk HBD.out, HYD.out⟩
            refine wpAnyT_pick (S := (Two w b yb (workCells (.slice (some ⟨g, 0, none⟩) n c0) fl (.map (some mb)) (opCells o) gen 0 0 ans (.slice none 0 0)) #[.slice (q k).la (q k).ln (q k).lc, .slice (q k).sa (q k).sn (q k).sc, .int .i64 (q k).last] 70 48)) (by kernel_rfl) Only.panic Only.keepsIn (w := wd) HSD.out [0, 1, 2, 3, 4, 5, 6, 7, 9] 8 _ _ (by kernel_rfl) ?_
            refine PickT.value (d := some 43) (.pointer (some ⟨b, 0, none⟩)) rfl rfl (by kernel_rfl) (fun U hU => (by go_simp)) ?_
            refine PickT.value (d := some 44) (.pointer (some ⟨b, 0, none⟩)) rfl rfl (by kernel_rfl) (fun U hU => (by go_simp)) ?_
            refine PickT.value (d := some 45) (.pointer (some ⟨b, 0, none⟩)) rfl rfl (by kernel_rfl) (fun U hU => (by go_simp)) ?_
            refine PickT.value (d := some 46) (.pointer (some ⟨b, 11, none⟩)) rfl rfl (by kernel_rfl) (fun U hU => (by go_simp)) ?_
            refine PickT.value (d := some 47) (.pointer (some ⟨b, 13, none⟩)) rfl rfl (by kernel_rfl) (fun U hU => (by go_simp)) ?_
            refine PickT.value (d := some 48) (ans) rfl rfl (by kernel_rfl) (fun U hU => (by have h0 : U.cell? ⟨b, 13, none⟩ = some (ans) := cell_of_row _ _ _ _ _ _ hU.wk; go_simp)) ?_
            refine PickT.value (d := some 49) (.pointer (some ⟨yb, 0, none⟩)) rfl rfl (by kernel_rfl) (fun U hU => (by go_simp)) ?_
            refine PickT.value (d := some 50) (.slice (q k).la (q k).ln (q k).lc) rfl rfl (by kernel_rfl) (fun U hU => (by have h0 : U.cell? ⟨yb, 0, none⟩ = some (.slice (q k).la (q k).ln (q k).lc) := cell_of_row _ _ 0 _ _ _ hU.xk; go_simp)) ?_
            refine PickT.value (d := some 52) (.slice B L.length d) rfl rfl (by kernel_rfl) (fun U hU => (by go_simp)) ?_
            simp only [PickT, Act.put, List.setIfInBounds_toArray, List.set_cons_zero, List.set_cons_succ]
            refine wpAnyT_one (i := 8) (by kernel_rfl) rfl (by kernel_rfl) ?_
            intro K hK
            unfold Oper.wp
            go_simp
            refine (cloneL_any (q k).la (q k).ln (q k).lc HED.out.lfew HED.out.ser_in.lnone (lx (q k).f) (lx_one _) wd (LabRow.row HED.out.ser_in.labs)).mono ?_
            rintro e w11 ⟨v11, rfl, hown11, hb11⟩
            obtain ⟨A11, c11, rfl, -, -, -, -⟩ := own_row hown11
            have HS11 := Lib.hid (HSD.out.far hb11)
            have HO11 := Lib.hid (row_far HOD.out hb11)
            have HL11 := Lib.hid hown11
            have HB11 := Lib.hid (below_step HBD.out hb11)
            clear hown11 hb11
            refine hK _ _ (fun _ => HS11.out) ?_
            clear hK K
            refine wpAnyT_pick (S := (Two w b yb (workCells (.slice (some ⟨g, 0, none⟩) n c0) fl (.map (some mb)) (opCells o) gen 0 0 ans (.slice none 0 0)) #[.slice (q k).la (q k).ln (q k).lc, .slice (q k).sa (q k).sn (q k).sc, .int .i64 (q k).last] 70 48)) (by kernel_rfl) Only.panic Only.keepsIn (w := w11) HS11.out [10] 6 _ _ (by kernel_rfl) ?_
            refine PickT.value (d := some 53) (.agg #[.slice A11 (q k).ln c11, .slice B L.length d, .int .i64 0]) rfl rfl (by kernel_rfl) (fun U hU => (by go_simp)) ?_
            simp only [PickT, Act.put, List.setIfInBounds_toArray, List.set_cons_zero, List.set_cons_succ]
            refine wpAnyT_one (i := 11) (by kernel_rfl) rfl (by kernel_rfl) ?_
            intro K hK
            unfold Oper.wp
            go_simp
            have HAL := Lib.hid ((Below.refl w11.heap.size w11).alloc (Nat.le_refl _) (.cells #[.slice A11 (q k).ln c11, .slice B L.length d, .int .i64 0] 48))
            have HS12 := Lib.hid (HS11.out.far HAL.out)
            have HB12 := Lib.hid (below_step HB11.out HAL.out)
            refine hK _ _ (fun _ => HS12.out) ?_
            clear hK K
            refine wpAnyT_one (i := 12) (by kernel_rfl) rfl (by kernel_rfl) ?_
            intro K hK
            have HAW := Lib.hid (HR.out.ans.own)
            have HA12 := Lib.hid (row_far HAW.out HB12.out)
            have hfw := HR.out.few
            have hWs : W.heap.size ≤ w11.heap.size + 1 := by
              have h1 := HR.out.gr.size
              have h2 := HB11.out.size
              omega
            refine wp_append_row _ _ _ 26 48 rfl 3 56 _ Try.underlying26 infoSer rfl (by decide) (by decide) W.heap.size ans an (rcells 3 (rx aq) an) rfl HA12.out ⟨w11.heap.size, 0, none⟩ 1 1 (rx fun _ => ansS (q k) A11 c11 B L.length d (fun j => (q k).s (L.getD j 0))) (rx_one _) rfl (row_built 3 _ w11 _ _ (fun j hj => by rcases (show j = 0 ∨ j = 1 ∨ j = 2 by omega) with rfl | rfl | rfl <;> rfl)) (by omega) (by simp; omega) ?_
            intro v13 w13 hown13 hg13 _
            obtain ⟨g13, cap13, rfl⟩ := ownsRow_succ hown13
            have HS13 := Lib.hid (HS12.out.grown hg13 (block_other HA12.out HS12.out.wk (by decide)) (fun e => by
              have h1 := (HAW.out.lt _ e).2
              have h2 := HYB.out
              omega) (fun r e => Nat.le_trans HW.out.bel.size (HA12.out.lt r e).1))
            have HG13 : Hid (W.grownBy w13 (some b)) := Lib.hid (grown_over (grown_trans HR.out.gr (grown_of_below HB12.out)) hg13 (fun r e => (HA12.out.lt r e).1))
            have HX13 : Hid (w13.heap[xb]? = some (.cells (opCells o).toArray 39 (0, 0))) := Lib.hid ((hg13.block xb (Nat.lt_of_lt_of_le (Array.getElem?_eq_some_iff.1 HR.out.xk).1 HB12.out.size) (fun e => block_other HAW.out HR.out.xk (by decide) e.symm)).trans (heap_keep HR.out.xk HB12.out))
            have HUP : Hid (∀ {b2 e k2 n2 : Nat} {u : Value} {xs : List Value}, (w11.alloc (.cells #[.slice A11 (q k).ln c11, .slice B L.length d, .int .i64 0] 48)).ownsRow b2 e k2 u n2 xs → e ≠ 48 → w13.ownsRow b2 e k2 u n2 xs) := Lib.hid (fun hx hne => row_kept hx hg13 (fun r e => row_apart hx HA12.out hne e))
            have HO13 := Lib.hid hown13
            clear hown13 hg13
            refine hK _ _ (fun _ => HS13.out) ?_
            clear hK K
            refine wpAnyT_pick (S := (Two w b yb (workCells (.slice (some ⟨g, 0, none⟩) n c0) fl (.map (some mb)) (opCells o) gen 0 0 ans (.slice none 0 0)) #[.slice (q k).la (q k).ln (q k).lc, .slice (q k).sa (q k).sn (q k).sc, .int .i64 (q k).last] 70 48)) (by kernel_rfl) Only.panic Only.keepsIn (w := w13) HS13.out [13, 14, 15] 1 _ _ (by kernel_rfl) ?_
            refine PickT.value (d := some 56) (.pointer (some ⟨b, 0, none⟩)) rfl rfl (by kernel_rfl) (fun U hU => (by go_simp)) ?_
            refine PickT.value (d := some 57) (.pointer (some ⟨b, 11, none⟩)) rfl rfl (by kernel_rfl) (fun U hU => (by go_simp)) ?_
            refine PickT.value (d := some 58) (.pointer (some ⟨b, 13, none⟩)) rfl rfl (by kernel_rfl) (fun U hU => (by go_simp)) ?_
            simp only [PickT, Act.put, List.setIfInBounds_toArray]
            have f13 : w13.frozen? ⟨b, 13, none⟩ = false := frozen_of_row _ _ _ _ _ HS13.out.wk
            have z13 : w13.cell? ⟨b, 13, none⟩ = some ans := cell_of_row _ _ _ _ _ _ HS13.out.wk
            refine wpAnyT_one (i := 16) (by kernel_rfl) rfl (by kernel_rfl) ?_
            intro K hK
            unfold Oper.wp
            go_simp
            refine hK _ _ (fun h => absurd h (by decide)) ?_
            clear hK K
            have HFIN : Hid (AskAt w W (w13.setCell ⟨b, 13, none⟩ (.slice (some ⟨g13, 0, none⟩) (an + 1) cap13)) b xb mb n (k + 1) (.slice (some ⟨g, 0, none⟩) n c0) fl gen o q (.slice (some ⟨g13, 0, none⟩) (an + 1) cap13) (an + 1) (put3 aq an (ansS (q k) A11 c11 B L.length d (fun j => (q k).s (L.getD j 0))))) := Lib.hid (by
              have hgs := grown_setCell w13 b 13 (.slice (some ⟨g13, 0, none⟩) (an + 1) cap13)
              have hbx : b ≠ xb := fun e => by
                have h1 := HS13.out.wk
                have h2 := HX13.out
                rw [← e] at h2
                rw [h1] at h2
                cases h2
              have hws : w.heap.size ≤ w9.heap.size := Nat.le_trans HWR.out.bel.size HZ9.out
              have hlab := HUP.out (row_far HL11.out HAL.out) (by decide)
              have hsam := HUP.out (row_far HO11.out HAL.out) (by decide)
              have hraised : Raised w13 w.heap.size W.heap.size (.slice (some ⟨g13, 0, none⟩) (an + 1) cap13) (an + 1) (put3 aq an (ansS (q k) A11 c11 B L.length d (fun j => (q k).s (L.getD j 0)))) :=
                Raised.more HO13.out (fun i hi => by
                  have h := (HR.out.ans.each i hi).far HB12.out
                  exact ⟨HUP.out h.labo (by decide), HUP.out h.samo (by decide), h.lsize, h.lfew, h.sfew⟩) HR.out.ans.apart ⟨own_from hlab (Nat.le_trans hws HZD.out), own_from hsam hws, HED.out.lsize, HED.out.lfew, hl10⟩ hsam (fun i hi r hr => Nat.lt_of_lt_of_le ((HR.out.ans.each i hi).samo.lt r hr).2 HZ9.out)
              refine ⟨grown_trans HG13.out hgs, by rw [heap_setCell_same w13 b 13 _ _ _ HS13.out.wk]; rfl, (hgs.block xb (Array.getElem?_eq_some_iff.1 HX13.out).1 (fun e => by cases e; exact hbx rfl)).trans HX13.out, hraised.kept HS13.out.wk (by decide) (by decide) (fun e => ?_) hgs, ?_, by omega⟩
              · cases e
                rcases HO13.out.2 with ⟨e2, -⟩ | ⟨g1, c1, cu, e2, -, hc2, -⟩
                · cases e2
                · cases e2
                  have h1 := HS13.out.wk
                  rw [hc2] at h1
                  cases h1
              · rw [sers_put3, askS_succ, HYES.out, HR.out.ser, if_pos rfl]
                congr 1
                show [(⟨_, _, _⟩ : Tr.Ser (List Lab))] = [⟨_, _, _⟩]
                rw [show (List.range (ansS (q k) A11 c11 B L.length d (fun j => (q k).s (L.getD j 0))).sn).map (ansS (q k) A11 c11 B L.length d (fun j => (q k).s (L.getD j 0))).s = Tr.within o.t o.hi ((List.range (q k).sn).map (q k).s) from HSM.out.trans HSW.out]
                rfl)
            clear f13 z13
            refine wpAnyT_done (by kernel_rfl) ?_ _
            refine only_mk ?_
            go_wp2_with fail
            go_roundw
            case rel => exact ⟨k + 1, _, an + 1, _, by omega, by go_num, HFIN.out⟩
            case measure => simp [intOf]; omega
          · have b0 : decide ((0 : Int) < (L.length : Int)) = false := decide_eq_false (by omega)
            have HN := Lib.hid (HR.out.skip HB10.out (by
              rw [HAA.out, ← HSW.out]
              have : L = [] := List.length_eq_zero_iff.1 (by omega)
              rw [this]; rfl))
            go_wp2_with fail
            go_roundw
            case rel => exact ⟨k + 1, ans, an, aq, by omega, by go_num, HN.out⟩
            case measure => simp [intOf]; omega
      · have hkk : k = n := by omega
        have d1 : decide ((k : Int) < (n : Int)) = false := decide_eq_false (by omega)
        have HFIN : Hid (OpEnd w b (opCells o) gen (Tr.run par ⟨sers q n, fl⟩ o.op gen) n (.returned (.int .i64 0)) wr) := Lib.hid (ask_end (by rw [hkk] at HR; exact HR.out) HW.out HK.out HM.out hn)
        clear hkk
        go_wp2_with fail
        go_ret
        exact HFIN.out
  · have hae : askedE o = 1 := by rw [HAE.out, if_neg hmok]
    rw [hae]
    have HFIN : Hid (OpEnd w b (opCells o) gen (Tr.run par ⟨sers q n, fl⟩ o.op gen) n (.returned (.int .i64 1)) w2) := Lib.hid (by
      rw [run_ask _ o gen HK.out, if_neg hmok]
      exact ⟨rfl, _, mb, n, q, 0, _, _, HW2.out, rfl, by omega, fun h => absurd (show (1 : Int) = 0 from h) (by decide)⟩)
    clear hmok hae
    go_wp2_with fail
    go_ret
    exact HFIN.out
end Go.Proofs.Ytidfanmfibbiiaa
