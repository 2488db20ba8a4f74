/-
  What All of the document's answer for package value comes to.
-/
import Derived.Test.YtahdfcflgicpkaaDoorVaPA
import Derived.Test.YtahdfcflgicpkaaDoorVaC
import Derived.Test.YtahdfcflgicpkaaDoorBitR
namespace Go.Proofs.YtahdfcflgicpkaaDoor
open Go.RowKit
/-- what a round of All carries along -/
structure AllHeld (g : Nat) (s : Va.S) (p : Addr) (v : Nat) (U : World) : Prop where
  st : RVStAt U g s
  at_ : U.cell? p = some (.int .u64 v)
theorem AllHeld.later {g : Nat} {s : Va.S} {p : Addr} {v : Nat} {W W2 : World} (h : AllHeld g s p v W) (hb : Below W.heap.size W W2) : AllHeld g s p v W2 := ⟨h.st.later hb, (hb.cell (block_lt_of_cell h.at_)).trans h.at_⟩

set_option maxRecDepth 100000 in
set_option maxHeartbeats 4000000 in
theorem rVAll_any (w : World) (A : Option Addr) (len cap : Nat) (f : Nat → Nat) (hlen : len ≤ 100) (hA : IntRow w A len .u64 (fun i => (f i : Int))) :
    Calls Tryd.prog 12 #[.slice A len cap] w fun e w' => e = .returned (.string (Bit.text (Va.bits f len))) ∧ Below w.heap.size w w' := by
  have hfl : ∀ i, i < len → f i < 18446744073709551616 := fun i hi => by have := (hA.u64_lt hi).2; omega
  have haf := Va.after_ok f len (by omega) hfl
  have HAF := Lib.hid haf; have HFL := Lib.hid hfl
  have HA := Lib.hid hA; clear hA haf hfl
  have hbg := fun W => rVBegin_any W
  rw [show (Va.S.val ⟨0, 0, 64, 0⟩) = .agg #[.int .i64 0, .int .u64 0, .int .i64 64, .int .i64 0] from rfl] at hbg
  have HBG := Lib.hid hbg; clear hbg
  go_enter Tryd.func12, Tryd.ntmps12
  go_wp2_with fail
  refine (HBG.out _).mono ?_; rintro e w2 ⟨rfl, hb2⟩
  have HB2 := Lib.hid hb2; clear hb2
  go_wp2_with fail
  go_loopw [3, 5] (fun o i wr => ∃ (k : Nat), k ≤ len ∧ i = .int .i64 k ∧ o = .string (Bit.str (Va.bits f k)) ∧ RVStAt wr w2.heap.size (Va.after f k) ∧ Below w.heap.size w wr) (fun _ i _ => len - (intOf i).toNat)
  case atStart => exact ⟨0, by omega, rfl, rfl, RowIs.one _ _, HB2.out.alloc HB2.out.size _⟩
  case round =>
    obtain ⟨k, hk, rfl, rfl, hs, hb⟩ := hrel
    have HB := Lib.hid hb; have HS := Lib.hid hs; clear hb hs
    have hB := Va.bits_length f k
    have hg2 : w.heap.size ≤ w2.heap.size := HB2.out.size
    have hgl : w2.heap.size < wr.heap.size := HS.out.lt
    generalize w2.heap.size = gx at *
    by_cases hlt : k < len
    · obtain ⟨ad, rfl, c0, wf0⟩ := HA.out.at_ HB.out hlt
      have hok := HAF.out k (by omega)
      have hfk := HFL.out k hlt
      have hput := fun W => rVPut_any (Va.after f k) hok.1 (by rw [hok.2]; omega) (f k) hfk W
      have hbn : Va.bits f (k + 1) = Va.bits f k ++ (Va.after f k).code (f k) := rfl
      have han : Va.after f (k + 1) = (Va.after f k).next (f k) := rfl
      have hcl := Va.S.code_length (Va.after f k) (f k)
      have hcc := Va.cost_le (s := Va.after f k) (f k)
      rw [← han] at hput
      generalize hsx : Va.after f k = s at *
      generalize hys : Va.after f (k + 1) = y at *
      have hcat : Bit.str (Va.bits f k) ++ Bit.str (s.code (f k)) = Bit.str (Va.bits f (k + 1)) := by rw [hbn]; exact Bit.str_append _ _
      have hsz : (Bit.str (Va.bits f k)).size + (Bit.str (s.code (f k))).size ≤ 8000 := by
        rw [Bit.str_size, Bit.str_size, hcl]; omega
      have HCAT := Lib.hid hcat; have HYS := Lib.hid hys
      generalize s.code (f k) = D at *
      generalize f k = v at *
      have hput2 : ∀ W, Calls Tryd.prog 27 #[.agg #[.int .i64 s.n, .int .u64 s.v, .int .i64 s.l, .int .i64 s.t], .int .u64 v] W fun e w' => e = .returned (.tuple #[.string (Bit.str D), .agg #[.int .i64 y.n, .int .u64 y.v, .int .i64 y.l, .int .i64 y.t]]) ∧ Below W.heap.size W w' := hput
      have HPUT := Lib.hid hput2
      clear hput hput2 hok hfk hbn han hsx hys hcat hcl hcc
      have HW1 : Hid (wr.heap.size = wr.drew.heap.size) := Lib.hid rfl
      have hS : AllHeld gx s (ad.add k) v wr.drew := ⟨HS.out, c0⟩
      have HBd : Hid (Below w.heap.size w wr.drew) := Lib.hid HB.out.drew
      clear HS c0
      go_wp2_with fail
      refine plain_held (fun U => AllHeld gx s (ad.add k) v U) (by kernel_rfl) ?_
      have hgd : gx < wr.drew.heap.size := hgl
      clear HW1 HB hgl
      generalize wr.drew = wd at *
      refine wpAnyH_pick (by kernel_rfl) Only.panic (w := wd) hS [0, 1, 2, 3, 4] 7 _ _ (by kernel_rfl) ?_
      refine PickOk.value (v := .agg #[.int .i64 s.n, .int .u64 s.v, .int .i64 s.l, .int .i64 s.t]) rfl rfl (by kernel_rfl) (fun U hU => (by obtain ⟨h0, h1, h2, h3⟩ := hU.st.cells; go_simp)) ?_
      refine PickOk.value (v := .slice (some ad) len cap) rfl rfl (by kernel_rfl) (fun U hU => (by go_simp)) ?_
      refine PickOk.value (v := .int .i64 k) rfl rfl (by kernel_rfl) (fun U hU => (by go_simp)) ?_
      refine PickOk.value (v := .pointer (some (ad.add k))) rfl rfl (by kernel_rfl) (fun U hU => (by go_simp)) ?_
      refine PickOk.value (v := .int .u64 v) rfl rfl (by kernel_rfl) (fun U hU => (by have h0 := hU.at_; go_simp)) ?_
      simp only [PickOk, Act.put, List.setIfInBounds_toArray]
      refine wpAnyH_two (i := 5) (j := 9) (by kernel_rfl) rfl rfl (by kernel_rfl) (by kernel_rfl) ?_ ?_
      · intro K hK
        unfold Oper.wp
        go_simp
        refine (HPUT.out wd).mono ?_; rintro e w3 ⟨rfl, hb3⟩
        have S3 := hS.later hb3
        have HB3 := Lib.hid (HBd.out.trans (hb3.mono HBd.out.size))
        refine hK _ _ S3 (fun _ => ?_)
        clear hK K hS hb3 HPUT
        refine wpAnyH_pick (by kernel_rfl) Only.panic (w := w3) S3 [6, 7, 8] 3 _ _ (by kernel_rfl) ?_
        refine PickOk.value (v := .tuple #[.string (Bit.str D), .agg #[.int .i64 y.n, .int .u64 y.v, .int .i64 y.l, .int .i64 y.t]]) rfl rfl (by kernel_rfl) (fun U hU => (by go_simp)) ?_
        refine PickOk.value (v := .string (Bit.str D)) rfl rfl (by kernel_rfl) (fun U hU => (by go_simp)) ?_
        refine PickOk.value (v := .agg #[.int .i64 y.n, .int .u64 y.v, .int .i64 y.l, .int .i64 y.t]) rfl rfl (by kernel_rfl) (fun U hU => (by go_simp)) ?_
        simp only [PickOk, Act.put, List.setIfInBounds_toArray]
        refine wpAnyH_one (i := 9) (by kernel_rfl) rfl (by kernel_rfl) ?_
        intro K hK
        unfold Oper.wp
        go_simp
        have S4 := S3.later ((Below.refl _ _).alloc (Nat.le_refl _) (.cells #[.int .i64 0, .int .u64 0, .int .i64 0, .int .i64 0] 46))
        have HQ : Hid (RVStAt (w3.alloc (.cells #[.int .i64 0, .int .u64 0, .int .i64 0, .int .i64 0] 46)) w3.heap.size ⟨0, 0, 0, 0⟩) := Lib.hid (RowIs.one _ _)
        have HB4 := Lib.hid (HB3.out.alloc HB3.out.size (.cells #[.int .i64 0, .int .u64 0, .int .i64 0, .int .i64 0] 46))
        have hq3 : gx < w3.heap.size := S3.st.lt
        have hal3 : (ad.add k).block < w3.heap.size := block_lt_of_cell S3.at_
        refine hK _ _ S4 (fun _ => ?_)
        clear hK K HB3
        generalize w3.alloc (.cells #[.int .i64 0, .int .u64 0, .int .i64 0, .int .i64 0] 46) = w4 at *
        generalize w3.heap.size = gq at *
        refine wpAnyH_pick (by kernel_rfl) Only.panic S4 [10] 1 _ _ (by kernel_rfl) ?_
        refine PickOk.value (v := .string (Bit.str D)) rfl rfl (by kernel_rfl) (fun U hU => (by go_simp)) ?_
        simp only [PickOk, Act.put, List.setIfInBounds_toArray]
        refine wpAnyH_one (i := 11) (by kernel_rfl) rfl (by kernel_rfl) ?_
        intro K hK
        obtain ⟨y0, y1, y2, y3⟩ := HQ.out.cells
        obtain ⟨x0, x1, x2, x3⟩ := HQ.out.free
        have hgr := grown_four w4 gq 0 1 2 3 (.int .i64 y.n) (.int .u64 y.v) (.int .i64 y.l) (.int .i64 y.t)
        have hb5 : Below gq w4 ((((w4.setCell ⟨gq, 0, none⟩ (.int .i64 y.n)).setCell ⟨gq, 1, none⟩ (.int .u64 y.v)).setCell ⟨gq, 2, none⟩ (.int .i64 y.l)).setCell ⟨gq, 3, none⟩ (.int .i64 y.t)) := (Below.refl _ _).grown hgr (Nat.le_of_lt HQ.out.lt) (fun r e => by cases e; exact Nat.le_refl _)
        have S5 : AllHeld gx s (ad.add k) v ((((w4.setCell ⟨gq, 0, none⟩ (.int .i64 y.n)).setCell ⟨gq, 1, none⟩ (.int .u64 y.v)).setCell ⟨gq, 2, none⟩ (.int .i64 y.l)).setCell ⟨gq, 3, none⟩ (.int .i64 y.t)) := ⟨(hb5.block _ hq3).trans S4.st, (hb5.cell hal3).trans S4.at_⟩
        have HN := Lib.hid (HQ.out.set y)
        have HB5 := Lib.hid (HB4.out.grown hgr HB4.out.size (fun r e => by cases e; omega))
        unfold Oper.wp
        go_simp
        refine hK _ _ S5 (fun _ => ?_)
        clear hK K hgr hb5 y0 y1 y2 y3 x0 x1 x2 x3 HQ S4 HB4
        refine wpAnyH_done (by kernel_rfl) ?_ _
        refine Only.next ?_
        generalize ((((w4.setCell ⟨gq, 0, none⟩ (.int .i64 y.n)).setCell ⟨gq, 1, none⟩ (.int .u64 y.v)).setCell ⟨gq, 2, none⟩ (.int .i64 y.l)).setCell ⟨gq, 3, none⟩ (.int .i64 y.t)) = w5 at *
        obtain ⟨q0, q1, q2, q3⟩ := HN.out.cells
        obtain ⟨r0, r1, r2, r3⟩ := S5.st.cells
        obtain ⟨z0, z1, z2, z3⟩ := S5.st.free
        have hgr5 := grown_four w5 gx 0 1 2 3 (.int .i64 y.n) (.int .u64 y.v) (.int .i64 y.l) (.int .i64 y.t)
        have HE := Lib.hid (S5.st.set y)
        have HBN := Lib.hid (HB5.out.grown hgr5 HB5.out.size (fun r e => by cases e; omega))
        have hsz2 : ¬ 9223372036854775807 < (Bit.str (Va.bits f k)).size + (Bit.str D).size := by omega
        clear S5 hgr5 S3 hsz
        go_wp2_with fail
        go_roundw
        case rel => exact ⟨k + 1, by omega, by go_num, congrArg Value.string HCAT.out, by rw [HYS.out]; exact HE.out, HBN.out⟩
        case measure => simp [intOf]; omega
      · intro K hK
        unfold Oper.wp
        go_simp
        have S4 := hS.later ((Below.refl _ _).alloc (Nat.le_refl _) (.cells #[.int .i64 0, .int .u64 0, .int .i64 0, .int .i64 0] 46))
        have HQ1 : Hid (RVStAt (wd.alloc (.cells #[.int .i64 0, .int .u64 0, .int .i64 0, .int .i64 0] 46)) wd.heap.size ⟨0, 0, 0, 0⟩) := Lib.hid (RowIs.one _ _)
        have HB3 := Lib.hid (HBd.out.alloc HBd.out.size (.cells #[.int .i64 0, .int .u64 0, .int .i64 0, .int .i64 0] 46))
        have hq3 : gx < wd.heap.size := hS.st.lt
        have hqs : w.heap.size ≤ wd.heap.size := HBd.out.size
        have hal3 : (ad.add k).block < wd.heap.size := block_lt_of_cell hS.at_
        refine hK _ _ S4 (fun _ => ?_)
        clear hK K hS HBd
        generalize wd.alloc (.cells #[.int .i64 0, .int .u64 0, .int .i64 0, .int .i64 0] 46) = w3 at *
        generalize wd.heap.size = gq at *
        refine wpAnyH_one (i := 5) (by kernel_rfl) rfl (by kernel_rfl) ?_
        intro K hK
        unfold Oper.wp
        go_simp
        refine (HPUT.out w3).mono ?_; rintro e w4 ⟨rfl, hb4⟩
        have S3 := S4.later hb4
        have HQ := Lib.hid (HQ1.out.later hb4)
        have HB4 := Lib.hid (HB3.out.trans (hb4.mono HB3.out.size))
        refine hK _ _ S3 (fun _ => ?_)
        clear hK K S4 hb4 HPUT HQ1 HB3
        have S4 := S3
        refine wpAnyH_pick (by kernel_rfl) Only.panic (w := w4) S3 [6, 7, 8, 10] 1 _ _ (by kernel_rfl) ?_
        refine PickOk.value (v := .tuple #[.string (Bit.str D), .agg #[.int .i64 y.n, .int .u64 y.v, .int .i64 y.l, .int .i64 y.t]]) rfl rfl (by kernel_rfl) (fun U hU => (by go_simp)) ?_
        refine PickOk.value (v := .string (Bit.str D)) rfl rfl (by kernel_rfl) (fun U hU => (by go_simp)) ?_
        refine PickOk.value (v := .agg #[.int .i64 y.n, .int .u64 y.v, .int .i64 y.l, .int .i64 y.t]) rfl rfl (by kernel_rfl) (fun U hU => (by go_simp)) ?_
        refine PickOk.value (v := .string (Bit.str D)) rfl rfl (by kernel_rfl) (fun U hU => (by go_simp)) ?_
        simp only [PickOk, Act.put, List.setIfInBounds_toArray]
        refine wpAnyH_one (i := 11) (by kernel_rfl) rfl (by kernel_rfl) ?_
        intro K hK
        obtain ⟨y0, y1, y2, y3⟩ := HQ.out.cells
        obtain ⟨x0, x1, x2, x3⟩ := HQ.out.free
        have hgr := grown_four w4 gq 0 1 2 3 (.int .i64 y.n) (.int .u64 y.v) (.int .i64 y.l) (.int .i64 y.t)
        have hb5 : Below gq w4 ((((w4.setCell ⟨gq, 0, none⟩ (.int .i64 y.n)).setCell ⟨gq, 1, none⟩ (.int .u64 y.v)).setCell ⟨gq, 2, none⟩ (.int .i64 y.l)).setCell ⟨gq, 3, none⟩ (.int .i64 y.t)) := (Below.refl _ _).grown hgr (Nat.le_of_lt HQ.out.lt) (fun r e => by cases e; exact Nat.le_refl _)
        have S5 : AllHeld gx s (ad.add k) v ((((w4.setCell ⟨gq, 0, none⟩ (.int .i64 y.n)).setCell ⟨gq, 1, none⟩ (.int .u64 y.v)).setCell ⟨gq, 2, none⟩ (.int .i64 y.l)).setCell ⟨gq, 3, none⟩ (.int .i64 y.t)) := ⟨(hb5.block _ hq3).trans S4.st, (hb5.cell hal3).trans S4.at_⟩
        have HN := Lib.hid (HQ.out.set y)
        have HB5 := Lib.hid (HB4.out.grown hgr HB4.out.size (fun r e => by cases e; omega))
        unfold Oper.wp
        go_simp
        refine hK _ _ S5 (fun _ => ?_)
        clear hK K hgr hb5 y0 y1 y2 y3 x0 x1 x2 x3 HQ S4 HB4
        refine wpAnyH_done (by kernel_rfl) ?_ _
        refine Only.next ?_
        generalize ((((w4.setCell ⟨gq, 0, none⟩ (.int .i64 y.n)).setCell ⟨gq, 1, none⟩ (.int .u64 y.v)).setCell ⟨gq, 2, none⟩ (.int .i64 y.l)).setCell ⟨gq, 3, none⟩ (.int .i64 y.t)) = w5 at *
        obtain ⟨q0, q1, q2, q3⟩ := HN.out.cells
        obtain ⟨r0, r1, r2, r3⟩ := S5.st.cells
        obtain ⟨z0, z1, z2, z3⟩ := S5.st.free
        have hgr5 := grown_four w5 gx 0 1 2 3 (.int .i64 y.n) (.int .u64 y.v) (.int .i64 y.l) (.int .i64 y.t)
        have HE := Lib.hid (S5.st.set y)
        have HBN := Lib.hid (HB5.out.grown hgr5 HB5.out.size (fun r e => by cases e; omega))
        have hsz2 : ¬ 9223372036854775807 < (Bit.str (Va.bits f k)).size + (Bit.str D).size := by omega
        clear S5 hgr5 S3 hsz
        go_wp2_with fail
        go_roundw
        case rel => exact ⟨k + 1, by omega, by go_num, congrArg Value.string HCAT.out, by rw [HYS.out]; exact HE.out, HBN.out⟩
        case measure => simp [intOf]; omega
    · obtain rfl : k = len := by omega
      have hrb := fun W => rBytes_any (Va.bits f k) (by omega) W
      have HRB := Lib.hid hrb; clear hrb
      go_wp2_with fail
      refine (HRB.out _).mono ?_; rintro e w3 ⟨rfl, hb3⟩
      have HB3 := Lib.hid (HB.out.trans (hb3.mono HB.out.size)); clear hb3
      go_wp2_with fail
      go_ret
      exact ⟨rfl, HB3.out⟩
end Go.Proofs.YtahdfcflgicpkaaDoor
