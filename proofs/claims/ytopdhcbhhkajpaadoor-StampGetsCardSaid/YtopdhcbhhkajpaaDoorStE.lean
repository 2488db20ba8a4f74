/-
  What Bits and All of the reference come to.
-/
import Derived.Test.YtopdhcbhhkajpaaDoorStD
namespace Go.Proofs.YtopdhcbhhkajpaaDoor
open Go.RowKit

def RStateAt (W : World) (g : Nat) (s : St.S) : Prop := W.heap[g]? = some (.cells #[.int .i64 s.n, .int .i64 s.t, .int .i64 s.d] 28 (0, 0))
theorem RStateAt.set {W : World} {g : Nat} {s : St.S} (h : RStateAt W g s) (n t d : Int) : RStateAt (((W.setCell ⟨g, 0, none⟩ (.int .i64 n)).setCell ⟨g, 1, none⟩ (.int .i64 t)).setCell ⟨g, 2, none⟩ (.int .i64 d)) g ⟨n, t, d⟩ := by
  unfold RStateAt at *
  simp [World.setCell, Array.getElem?_modify, h]

set_option maxRecDepth 100000 in
set_option maxHeartbeats 1000000 in
theorem rStBits_any (w : World) (A : Option Addr) (len cap : Nat) (f : Nat → Int) (hlen : len ≤ 100) (hA : IntRow w A len .i64 f) :
    Calls Tryd.prog 43 #[.slice A len cap] w fun e w' => e = .returned (.string (Bit.str (St.bits f len))) ∧ Below w.heap.size w w' := by
  have HA := Lib.hid hA; clear hA
  go_enter Tryd.func43, Tryd.ntmps43
  go_wp2_with fail
  go_loopw [3, 5] (fun o i wr => ∃ (k : Nat), k ≤ len ∧ i = .int .i64 k ∧ o = .string (Bit.str (St.bits f k)) ∧ RStateAt wr w.heap.size (St.after f k) ∧ Below w.heap.size w wr) (fun _ i _ => len - (intOf i).toNat)
  case atStart => exact ⟨0, by omega, rfl, rfl, RowIs.one _ _, (Below.refl _ _).alloc (Nat.le_refl _) _⟩
  case round =>
    obtain ⟨k, hk, rfl, rfl, hs, hb⟩ := hrel
    have HB := Lib.hid hb; have HS := Lib.hid hs; clear hb hs
    have hB := St.bits_length f k
    by_cases hlt : k < len
    · obtain ⟨ad, rfl, c0, wf0⟩ := HA.out.at_ HB.out hlt
      have e0 := cell_of_row _ _ 0 _ _ _ HS.out
      have e1 := cell_of_row _ _ 1 _ _ _ HS.out
      have e2 := cell_of_row _ _ 2 _ _ _ HS.out
      simp at e0 e1 e2
      go_wp2_with fail
      have hS : wr.drew.cell? ⟨w.heap.size, 0, none⟩ = some (.int .i64 (St.after f k).n) ∧ wr.drew.cell? ⟨w.heap.size, 1, none⟩ = some (.int .i64 (St.after f k).t) ∧ wr.drew.cell? ⟨w.heap.size, 2, none⟩ = some (.int .i64 (St.after f k).d) ∧ wr.drew.cell? (ad.add k) = some (.int .i64 (f k)) := ⟨e0, e1, e2, c0⟩
      refine plain_held (fun U => U.cell? ⟨w.heap.size, 0, none⟩ = some (.int .i64 (St.after f k).n) ∧ U.cell? ⟨w.heap.size, 1, none⟩ = some (.int .i64 (St.after f k).t) ∧ U.cell? ⟨w.heap.size, 2, none⟩ = some (.int .i64 (St.after f k).d) ∧ U.cell? (ad.add k) = some (.int .i64 (f k))) (by kernel_rfl) ?_
      refine wpAnyH_pick (by kernel_rfl) Only.panic (w := wr.drew) hS [0, 1, 2, 3, 4] 7 _ _ (by kernel_rfl) ?_
      refine PickOk.value (v := (St.after f k).val) rfl rfl (by kernel_rfl) (fun U hU => (by obtain ⟨h0, h1, h2, h3⟩ := hU; unfold St.S.val; go_simp)) ?_
      refine PickOk.value (v := .slice (some ad) len cap) rfl rfl (by kernel_rfl) (fun U hU => (by go_simp)) ?_
      refine PickOk.value (v := .int .i64 k) rfl rfl (by kernel_rfl) (fun U hU => (by go_simp)) ?_
      refine PickOk.value (v := .pointer (some (ad.add k))) rfl rfl (by kernel_rfl) (fun U hU => (by go_simp)) ?_
      refine PickOk.value (v := .int .i64 (f k)) rfl rfl (by kernel_rfl) (fun U hU => (by obtain ⟨h0, h1, h2, h3⟩ := hU; go_simp)) ?_
      simp only [PickOk, Act.put, List.setIfInBounds_toArray]
      refine wpAnyH_two (i := 5) (j := 9) (by kernel_rfl) rfl rfl (by kernel_rfl) (by kernel_rfl) ?_ ?_
      · intro K hK
        unfold Oper.wp
        go_simp
        refine (rPut_any (St.after f k) (f k) wr.drew).mono ?_; rintro e w3 ⟨rfl, hb3⟩
        have S3 : w3.cell? ⟨w.heap.size, 0, none⟩ = some (.int .i64 (St.after f k).n) ∧ w3.cell? ⟨w.heap.size, 1, none⟩ = some (.int .i64 (St.after f k).t) ∧ w3.cell? ⟨w.heap.size, 2, none⟩ = some (.int .i64 (St.after f k).d) ∧ w3.cell? (ad.add k) = some (.int .i64 (f k)) :=
          ⟨(hb3.cell (block_lt_of_cell hS.1)).trans hS.1, (hb3.cell (block_lt_of_cell hS.2.1)).trans hS.2.1, (hb3.cell (block_lt_of_cell hS.2.2.1)).trans hS.2.2.1, (hb3.cell (block_lt_of_cell hS.2.2.2)).trans hS.2.2.2⟩
        refine hK _ _ S3 (fun _ => ?_)
        clear hK K
        refine wpAnyH_pick (by kernel_rfl) Only.panic (w := w3) S3 [6, 7, 8] 3 _ _ (by kernel_rfl) ?_
        refine PickOk.value (v := .tuple #[.string (Bit.str ((St.after f k).code (f k))), ((St.after f k).next (f k)).val]) rfl rfl (by kernel_rfl) (fun U hU => (by go_simp)) ?_
        refine PickOk.value (v := .string (Bit.str ((St.after f k).code (f k)))) rfl rfl (by kernel_rfl) (fun U hU => (by go_simp)) ?_
        refine PickOk.value (v := ((St.after f k).next (f k)).val) rfl rfl (by kernel_rfl) (fun U hU => (by go_simp)) ?_
        simp only [PickOk, Act.put, List.setIfInBounds_toArray]
        refine wpAnyH_one (i := 9) (by kernel_rfl) rfl (by kernel_rfl) ?_
        intro K hK
        unfold Oper.wp
        go_simp
        have S4 : ∀ o, (w3.alloc o).cell? ⟨w.heap.size, 0, none⟩ = some (.int .i64 (St.after f k).n) ∧ (w3.alloc o).cell? ⟨w.heap.size, 1, none⟩ = some (.int .i64 (St.after f k).t) ∧ (w3.alloc o).cell? ⟨w.heap.size, 2, none⟩ = some (.int .i64 (St.after f k).d) ∧ (w3.alloc o).cell? (ad.add k) = some (.int .i64 (f k)) := fun o =>
          ⟨(World.cell?_alloc_lt w3 o _ (block_lt_of_cell S3.1)).trans S3.1, (World.cell?_alloc_lt w3 o _ (block_lt_of_cell S3.2.1)).trans S3.2.1, (World.cell?_alloc_lt w3 o _ (block_lt_of_cell S3.2.2.1)).trans S3.2.2.1, (World.cell?_alloc_lt w3 o _ (block_lt_of_cell S3.2.2.2)).trans S3.2.2.2⟩
        refine hK _ _ (S4 _) (fun _ => ?_)
        clear hK K
        refine wpAnyH_pick (by kernel_rfl) Only.panic (S4 _) [10] 1 _ _ (by kernel_rfl) ?_
        refine PickOk.value (v := .string (Bit.str ((St.after f k).code (f k)))) rfl rfl (by kernel_rfl) (fun U hU => (by go_simp)) ?_
        simp only [PickOk, Act.put, List.setIfInBounds_toArray]
        refine wpAnyH_one (i := 11) (by kernel_rfl) rfl (by kernel_rfl) ?_
        intro K hK
        rw [show ((St.after f k).next (f k)).val = .agg #[.int .i64 (St.after f (k + 1)).n, .int .i64 (St.after f (k + 1)).t, .int .i64 (St.after f (k + 1)).d] from rfl] at *
        unfold Oper.wp
        go_simp
        refine hK _ _ (S4 _) (fun _ => ?_)
        clear hK K
        refine wpAnyH_done (by kernel_rfl) ?_ _
        refine Only.next ?_
        have hb4 : Below w.heap.size w w3 := HB.out.trans ((show Below wr.heap.size wr w3 from ⟨hb3.os, hb3.tape, hb3.output, hb3.size, hb3.block⟩).mono HB.out.size)
        have HQ : Hid (RStateAt (w3.alloc (.cells #[.int .i64 (St.after f (k + 1)).n, .int .i64 (St.after f (k + 1)).t, .int .i64 (St.after f (k + 1)).d] 28)) w3.heap.size (St.after f (k + 1))) := Lib.hid (RowIs.one _ _)
        have HB5 : Hid (Below w.heap.size w (w3.alloc (.cells #[.int .i64 (St.after f (k + 1)).n, .int .i64 (St.after f (k + 1)).t, .int .i64 (St.after f (k + 1)).d] 28))) := Lib.hid (hb4.alloc hb4.size _)
        have hgl : w.heap.size < wr.heap.size := (Array.getElem?_eq_some_iff.1 HS.out).1
        have hs3 : RStateAt w3 w.heap.size (St.after f k) := (hb3.block _ hgl).trans HS.out
        have HS5 : Hid (RStateAt (w3.alloc (.cells #[.int .i64 (St.after f (k + 1)).n, .int .i64 (St.after f (k + 1)).t, .int .i64 (St.after f (k + 1)).d] 28)) w.heap.size (St.after f k)) := Lib.hid (((Below.refl w3.heap.size w3).alloc (Nat.le_refl _) _).block _ (Array.getElem?_eq_some_iff.1 hs3).1 |>.trans hs3)
        clear hb3 hb4 hs3
        generalize w3.alloc (.cells #[.int .i64 (St.after f (k + 1)).n, .int .i64 (St.after f (k + 1)).t, .int .i64 (St.after f (k + 1)).d] 28) = W5 at *
        generalize w3.heap.size = gq at *
        have q0 := cell_of_row _ _ 0 _ _ _ HQ.out
        have q1 := cell_of_row _ _ 1 _ _ _ HQ.out
        have q2 := cell_of_row _ _ 2 _ _ _ HQ.out
        have r0 := cell_of_row _ _ 0 _ _ _ HS5.out
        have r1 := cell_of_row _ _ 1 _ _ _ HS5.out
        have r2 := cell_of_row _ _ 2 _ _ _ HS5.out
        have z0 := frozen_of_row _ _ 0 _ _ HS5.out
        have z1 := frozen_of_row _ _ 1 _ _ HS5.out
        have z2 := frozen_of_row _ _ 2 _ _ HS5.out
        simp at q0 q1 q2 r0 r1 r2
        have hcat : Bit.str (St.bits f k) ++ Bit.str ((St.after f k).code (f k)) = Bit.str (St.bits f (k + 1)) := Bit.str_append _ _
        have hsz : ¬ 9223372036854775807 < (Bit.str (St.bits f k)).size + (Bit.str ((St.after f k).code (f k))).size := by
          rw [Bit.str_size, Bit.str_size, St.S.code_length]; have := (St.after f k).cost_le (f k); omega
        have HE : Hid (RStateAt (((W5.setCell ⟨w.heap.size, 0, none⟩ (.int .i64 (St.after f (k + 1)).n)).setCell ⟨w.heap.size, 1, none⟩ (.int .i64 (St.after f (k + 1)).t)).setCell ⟨w.heap.size, 2, none⟩ (.int .i64 (St.after f (k + 1)).d)) w.heap.size (St.after f (k + 1))) := Lib.hid (HS5.out.set _ _ _)
        have HBN : Hid (Below w.heap.size w (((W5.setCell ⟨w.heap.size, 0, none⟩ (.int .i64 (St.after f (k + 1)).n)).setCell ⟨w.heap.size, 1, none⟩ (.int .i64 (St.after f (k + 1)).t)).setCell ⟨w.heap.size, 2, none⟩ (.int .i64 (St.after f (k + 1)).d))) :=
          Lib.hid (HB5.out.grown (grown_three W5 w.heap.size 0 1 2 _ _ _) HB5.out.size (fun r e => by cases e; omega))
        clear hS S3 S4 e0 e1 e2 c0
        go_wp2_with fail
        go_roundw
        case rel => exact ⟨k + 1, by omega, by go_num, rfl, HE.out, HBN.out⟩
        case measure => simp [intOf]; omega
      · intro K hK
        unfold Oper.wp
        go_simp
        have S1 : ∀ o, (wr.drew.alloc o).cell? ⟨w.heap.size, 0, none⟩ = some (.int .i64 (St.after f k).n) ∧ (wr.drew.alloc o).cell? ⟨w.heap.size, 1, none⟩ = some (.int .i64 (St.after f k).t) ∧ (wr.drew.alloc o).cell? ⟨w.heap.size, 2, none⟩ = some (.int .i64 (St.after f k).d) ∧ (wr.drew.alloc o).cell? (ad.add k) = some (.int .i64 (f k)) := fun o =>
          ⟨(World.cell?_alloc_lt wr.drew o _ (block_lt_of_cell hS.1)).trans hS.1, (World.cell?_alloc_lt wr.drew o _ (block_lt_of_cell hS.2.1)).trans hS.2.1, (World.cell?_alloc_lt wr.drew o _ (block_lt_of_cell hS.2.2.1)).trans hS.2.2.1, (World.cell?_alloc_lt wr.drew o _ (block_lt_of_cell hS.2.2.2)).trans hS.2.2.2⟩
        refine hK _ _ (S1 _) (fun _ => ?_)
        clear hK K
        refine wpAnyH_one (i := 5) (by kernel_rfl) rfl (by kernel_rfl) ?_
        intro K hK
        unfold Oper.wp
        go_simp
        refine (rPut_any (St.after f k) (f k) _).mono ?_; rintro e w3 ⟨rfl, hb3⟩
        have S2 := S1 (.cells #[.int .i64 0, .int .i64 0, .int .i64 0] 28)
        have S3 : w3.cell? ⟨w.heap.size, 0, none⟩ = some (.int .i64 (St.after f k).n) ∧ w3.cell? ⟨w.heap.size, 1, none⟩ = some (.int .i64 (St.after f k).t) ∧ w3.cell? ⟨w.heap.size, 2, none⟩ = some (.int .i64 (St.after f k).d) ∧ w3.cell? (ad.add k) = some (.int .i64 (f k)) :=
          ⟨(hb3.cell (block_lt_of_cell S2.1)).trans S2.1, (hb3.cell (block_lt_of_cell S2.2.1)).trans S2.2.1, (hb3.cell (block_lt_of_cell S2.2.2.1)).trans S2.2.2.1, (hb3.cell (block_lt_of_cell S2.2.2.2)).trans S2.2.2.2⟩
        have hq0 : RStateAt w3 wr.heap.size ⟨0, 0, 0⟩ := (hb3.block _ (by simp)).trans (RowIs.one wr.drew _)
        have hbw : Below wr.heap.size wr w3 := (show Below wr.heap.size wr (wr.drew.alloc _) from ⟨rfl, rfl, rfl, by simp, fun j hj => heap_alloc_old wr.drew _ hj⟩).trans (hb3.mono (by simp))
        refine hK _ _ S3 (fun _ => ?_)
        clear hK K S1 S2 hb3
        refine wpAnyH_pick (by kernel_rfl) Only.panic (w := w3) S3 [6, 7, 8, 10] 1 _ _ (by kernel_rfl) ?_
        refine PickOk.value (v := .tuple #[.string (Bit.str ((St.after f k).code (f k))), ((St.after f k).next (f k)).val]) rfl rfl (by kernel_rfl) (fun U hU => (by go_simp)) ?_
        refine PickOk.value (v := .string (Bit.str ((St.after f k).code (f k)))) rfl rfl (by kernel_rfl) (fun U hU => (by go_simp)) ?_
        refine PickOk.value (v := ((St.after f k).next (f k)).val) rfl rfl (by kernel_rfl) (fun U hU => (by go_simp)) ?_
        refine PickOk.value (v := .string (Bit.str ((St.after f k).code (f k)))) rfl rfl (by kernel_rfl) (fun U hU => (by go_simp)) ?_
        simp only [PickOk, Act.put, List.setIfInBounds_toArray]
        refine wpAnyH_one (i := 11) (by kernel_rfl) rfl (by kernel_rfl) ?_
        intro K hK
        rw [show ((St.after f k).next (f k)).val = .agg #[.int .i64 (St.after f (k + 1)).n, .int .i64 (St.after f (k + 1)).t, .int .i64 (St.after f (k + 1)).d] from rfl] at *
        have y0 := cell_of_row _ _ 0 _ _ _ hq0
        have y1 := cell_of_row _ _ 1 _ _ _ hq0
        have y2 := cell_of_row _ _ 2 _ _ _ hq0
        have x0 := frozen_of_row _ _ 0 _ _ hq0
        have x1 := frozen_of_row _ _ 1 _ _ hq0
        have x2 := frozen_of_row _ _ 2 _ _ hq0
        simp at y0 y1 y2
        have hgl : w.heap.size < wr.heap.size := (Array.getElem?_eq_some_iff.1 HS.out).1
        have hal : (ad.add k).block < wr.heap.size := block_lt_of_cell c0
        have hb5 : Below wr.heap.size w3 (((w3.setCell ⟨wr.heap.size, 0, none⟩ (.int .i64 (St.after f (k + 1)).n)).setCell ⟨wr.heap.size, 1, none⟩ (.int .i64 (St.after f (k + 1)).t)).setCell ⟨wr.heap.size, 2, none⟩ (.int .i64 (St.after f (k + 1)).d)) := (Below.refl _ _).grown (grown_three w3 wr.heap.size 0 1 2 _ _ _) hbw.size (fun r e => by cases e; omega)
        have S4 : (((w3.setCell ⟨wr.heap.size, 0, none⟩ (.int .i64 (St.after f (k + 1)).n)).setCell ⟨wr.heap.size, 1, none⟩ (.int .i64 (St.after f (k + 1)).t)).setCell ⟨wr.heap.size, 2, none⟩ (.int .i64 (St.after f (k + 1)).d)).cell? ⟨w.heap.size, 0, none⟩ = some (.int .i64 (St.after f k).n) ∧ (((w3.setCell ⟨wr.heap.size, 0, none⟩ (.int .i64 (St.after f (k + 1)).n)).setCell ⟨wr.heap.size, 1, none⟩ (.int .i64 (St.after f (k + 1)).t)).setCell ⟨wr.heap.size, 2, none⟩ (.int .i64 (St.after f (k + 1)).d)).cell? ⟨w.heap.size, 1, none⟩ = some (.int .i64 (St.after f k).t) ∧ (((w3.setCell ⟨wr.heap.size, 0, none⟩ (.int .i64 (St.after f (k + 1)).n)).setCell ⟨wr.heap.size, 1, none⟩ (.int .i64 (St.after f (k + 1)).t)).setCell ⟨wr.heap.size, 2, none⟩ (.int .i64 (St.after f (k + 1)).d)).cell? ⟨w.heap.size, 2, none⟩ = some (.int .i64 (St.after f k).d) ∧ (((w3.setCell ⟨wr.heap.size, 0, none⟩ (.int .i64 (St.after f (k + 1)).n)).setCell ⟨wr.heap.size, 1, none⟩ (.int .i64 (St.after f (k + 1)).t)).setCell ⟨wr.heap.size, 2, none⟩ (.int .i64 (St.after f (k + 1)).d)).cell? (ad.add k) = some (.int .i64 (f k)) :=
          ⟨(hb5.cell hgl).trans S3.1, (hb5.cell hgl).trans S3.2.1, (hb5.cell hgl).trans S3.2.2.1, (hb5.cell hal).trans S3.2.2.2⟩
        unfold Oper.wp
        go_simp
        refine hK _ _ S4 (fun _ => ?_)
        clear hK K
        refine wpAnyH_done (by kernel_rfl) ?_ _
        refine Only.next ?_
        have HQ : Hid (RStateAt (((w3.setCell ⟨wr.heap.size, 0, none⟩ (.int .i64 (St.after f (k + 1)).n)).setCell ⟨wr.heap.size, 1, none⟩ (.int .i64 (St.after f (k + 1)).t)).setCell ⟨wr.heap.size, 2, none⟩ (.int .i64 (St.after f (k + 1)).d)) wr.heap.size (St.after f (k + 1))) := Lib.hid (hq0.set _ _ _)
        have HB5 : Hid (Below w.heap.size w (((w3.setCell ⟨wr.heap.size, 0, none⟩ (.int .i64 (St.after f (k + 1)).n)).setCell ⟨wr.heap.size, 1, none⟩ (.int .i64 (St.after f (k + 1)).t)).setCell ⟨wr.heap.size, 2, none⟩ (.int .i64 (St.after f (k + 1)).d))) := Lib.hid ((HB.out.trans (hbw.mono HB.out.size)).trans (hb5.mono HB.out.size))
        have HS5 : Hid (RStateAt (((w3.setCell ⟨wr.heap.size, 0, none⟩ (.int .i64 (St.after f (k + 1)).n)).setCell ⟨wr.heap.size, 1, none⟩ (.int .i64 (St.after f (k + 1)).t)).setCell ⟨wr.heap.size, 2, none⟩ (.int .i64 (St.after f (k + 1)).d)) w.heap.size (St.after f k)) := Lib.hid ((hb5.block _ hgl).trans ((hbw.block _ hgl).trans HS.out))
        clear hq0 hbw hb5 y0 y1 y2 x0 x1 x2 hal
        generalize (((w3.setCell ⟨wr.heap.size, 0, none⟩ (.int .i64 (St.after f (k + 1)).n)).setCell ⟨wr.heap.size, 1, none⟩ (.int .i64 (St.after f (k + 1)).t)).setCell ⟨wr.heap.size, 2, none⟩ (.int .i64 (St.after f (k + 1)).d)) = W5 at *
        generalize wr.heap.size = gq at *
        have q0 := cell_of_row _ _ 0 _ _ _ HQ.out
        have q1 := cell_of_row _ _ 1 _ _ _ HQ.out
        have q2 := cell_of_row _ _ 2 _ _ _ HQ.out
        have r0 := cell_of_row _ _ 0 _ _ _ HS5.out
        have r1 := cell_of_row _ _ 1 _ _ _ HS5.out
        have r2 := cell_of_row _ _ 2 _ _ _ HS5.out
        have z0 := frozen_of_row _ _ 0 _ _ HS5.out
        have z1 := frozen_of_row _ _ 1 _ _ HS5.out
        have z2 := frozen_of_row _ _ 2 _ _ HS5.out
        simp at q0 q1 q2 r0 r1 r2
        have hcat : Bit.str (St.bits f k) ++ Bit.str ((St.after f k).code (f k)) = Bit.str (St.bits f (k + 1)) := Bit.str_append _ _
        have hsz : ¬ 9223372036854775807 < (Bit.str (St.bits f k)).size + (Bit.str ((St.after f k).code (f k))).size := by
          rw [Bit.str_size, Bit.str_size, St.S.code_length]; have := (St.after f k).cost_le (f k); omega
        have HE : Hid (RStateAt (((W5.setCell ⟨w.heap.size, 0, none⟩ (.int .i64 (St.after f (k + 1)).n)).setCell ⟨w.heap.size, 1, none⟩ (.int .i64 (St.after f (k + 1)).t)).setCell ⟨w.heap.size, 2, none⟩ (.int .i64 (St.after f (k + 1)).d)) w.heap.size (St.after f (k + 1))) := Lib.hid (HS5.out.set _ _ _)
        have HBN : Hid (Below w.heap.size w (((W5.setCell ⟨w.heap.size, 0, none⟩ (.int .i64 (St.after f (k + 1)).n)).setCell ⟨w.heap.size, 1, none⟩ (.int .i64 (St.after f (k + 1)).t)).setCell ⟨w.heap.size, 2, none⟩ (.int .i64 (St.after f (k + 1)).d))) :=
          Lib.hid (HB5.out.grown (grown_three W5 w.heap.size 0 1 2 _ _ _) HB5.out.size (fun r e => by cases e; omega))
        clear hS S3 S4 e0 e1 e2 c0
        go_wp2_with fail
        go_roundw
        case rel => exact ⟨k + 1, by omega, by go_num, rfl, HE.out, HBN.out⟩
        case measure => simp [intOf]; omega
    · obtain rfl : k = len := by omega
      go_wp2_with fail
      go_ret
      exact ⟨rfl, HB.out⟩
end Go.Proofs.YtopdhcbhhkajpaaDoor
