/-
  The walks of StampCosts.
-/
import Derived.Test.YtopdhcbhhkajpaaDoorStU
namespace Go.Proofs.YtopdhcbhhkajpaaDoor
open Go.RowKit

theorem St.after_n (f : Nat → Int) : ∀ k, k ≤ 1000 → (St.after f k).n = k
  | 0, _ => rfl
  | k + 1, h => by
    have ih := St.after_n f k (by omega)
    simp only [St.after, St.S.next]
    by_cases h0 : (St.after f k).n = 0
    · rw [if_pos h0]; show (1 : Int) = _; omega
    · rw [if_neg h0]; show St.sw ((St.after f k).n + 1) = _; rw [St.sw_in (by omega)]; omega
set_option maxRecDepth 100000 in
set_option maxHeartbeats 1000000 in
theorem stampCosts_walk0 (w : World) (hT : ClsOk w) (A : Option Addr) (len cap : Nat) (f : Nat → Int) (_hlen : len ≤ maxLen) (hA : IntRow w A len .i64 f) :
    Calls Tryd.prog 8 #[.slice A len cap] w fun e w' => e = .returned (.bool true) ∧ Below w.heap.size w w' := by
  have HT := Lib.hid hT; have HA := Lib.hid hA; clear hT hA
  by_cases hl : len ≤ 60
  · have d0 : decide ((60 : Int) < (len : Int)) = false := by simp; omega
    go_enter Tryd.func8, Tryd.ntmps8
    go_wp2_with fail
    refine (works_any _ HT.out).mono ?_; rintro e w1 ⟨rfl, hb1⟩
    have HB1 := Lib.hid hb1; clear hb1
    go_wp2_with fail
    refine (NewWriter_any _).mono ?_; rintro e w2 ⟨rfl, hw2⟩
    have hwr : WrAt w2 w.heap.size w1.heap.size none 0 [] := by rw [hw2]; exact WrAt.new w1 _
    have hb2 : Below w.heap.size w w2 := by rw [hw2]; exact HB1.out.alloc HB1.out.size _
    have hpw : w.heap.size ≤ w1.heap.size := HB1.out.size
    generalize w1.heap.size = p at *
    have HWr := Lib.hid hwr; have HB2 := Lib.hid hb2; clear hwr hb2 hw2
    go_wp2_with fail
    go_loopw [6, 7] (fun n i wr => ∃ (k : Nat) (A2 : Option Addr) (cap2 : Nat), k ≤ len ∧ i = .int .i64 k ∧ n = .int .i64 ((St.bits f k).length : Nat) ∧ WrAt wr w.heap.size p A2 cap2 (St.bits f k) ∧ StateAt wr w2.heap.size (St.after f k) ∧ Below w.heap.size w wr) (fun _ i _ => len - (intOf i).toNat)
    case atStart => exact ⟨0, none, 0, by omega, rfl, rfl, HWr.out.later ((Below.refl _ _).alloc (Nat.le_refl _) _), RowIs.one _ _, HB2.out.alloc HB2.out.size _⟩
    case round =>
      obtain ⟨k, A2, cap2, hk, rfl, rfl, hw, hs, hb⟩ := hrel
      have HW := Lib.hid hw; have HB := Lib.hid hb; have HS := Lib.hid hs; clear hw hb hs
      have hB := St.bits_length f k
      have hgp : p < w2.heap.size := HWr.out.lt
      by_cases hlt : k < len
      · obtain ⟨ad, rfl, c0, wf0⟩ := HA.out.at_ HB.out hlt
        have HTk : Hid (ClsOk wr) := Lib.hid (HT.out.later HB.out)
        obtain ⟨e0, e1, e2⟩ := HS.out.cells
        have hbn : (St.bits f (k + 1)).length = (St.bits f k).length + (St.after f k).cost (f k) := by simp only [St.bits, List.length_append, St.S.code_length]
        have hcl := (St.after f k).cost_le (f k)
        have HBN0 := Lib.hid hbn; clear hbn
        generalize hbl : (St.bits f k).length = bl at *
        have HBL := Lib.hid hbl; clear hbl
        go_wp2_with fail
        have hS : wr.drew.cell? ⟨w2.heap.size, 0, none⟩ = some (.int .i64 (St.after f k).n) ∧ wr.drew.cell? ⟨w2.heap.size, 1, none⟩ = some (.int .i64 (St.after f k).t) ∧ wr.drew.cell? ⟨w2.heap.size, 2, none⟩ = some (.int .i64 (St.after f k).d) ∧ wr.drew.cell? (ad.add k) = some (.int .i64 (f k)) := ⟨e0, e1, e2, c0⟩
        refine plain_held (fun U => U.cell? ⟨w2.heap.size, 0, none⟩ = some (.int .i64 (St.after f k).n) ∧ U.cell? ⟨w2.heap.size, 1, none⟩ = some (.int .i64 (St.after f k).t) ∧ U.cell? ⟨w2.heap.size, 2, none⟩ = some (.int .i64 (St.after f k).d) ∧ U.cell? (ad.add k) = some (.int .i64 (f k))) (by kernel_rfl) ?_
        refine wpAnyH_pick (by kernel_rfl) Only.panic (w := wr.drew) hS [0, 1, 2, 3, 4, 5] 3 _ _ (by kernel_rfl) ?_
        refine PickOk.value (v := .int .i64 bl) rfl rfl (by kernel_rfl) (fun U hU => (by go_simp)) ?_
        refine PickOk.value (v := (St.after f k).val) rfl rfl (by kernel_rfl) (fun U hU => (by obtain ⟨h0, h1, h2, h3⟩ := hU; unfold St.S.val; go_simp)) ?_
        refine PickOk.value (v := .slice (some ad) len cap) rfl rfl (by kernel_rfl) (fun U hU => (by go_simp)) ?_
        refine PickOk.value (v := .int .i64 k) rfl rfl (by kernel_rfl) (fun U hU => (by go_simp)) ?_
        refine PickOk.value (v := .pointer (some (ad.add k))) rfl rfl (by kernel_rfl) (fun U hU => (by go_simp)) ?_
        refine PickOk.value (v := .int .i64 (f k)) rfl rfl (by kernel_rfl) (fun U hU => (by obtain ⟨h0, h1, h2, h3⟩ := hU; go_simp)) ?_
        simp only [PickOk, Act.put, List.setIfInBounds_toArray]
        refine wpAnyH_one (i := 6) (by kernel_rfl) rfl (by kernel_rfl) ?_
        intro K hK
        unfold Oper.wp
        go_simp
        refine (cost_any (St.after f k) (f k) wr.drew HTk.out).mono ?_; rintro e w3 ⟨rfl, hb3⟩
        have S3 : w3.cell? ⟨w2.heap.size, 0, none⟩ = some (.int .i64 (St.after f k).n) ∧ w3.cell? ⟨w2.heap.size, 1, none⟩ = some (.int .i64 (St.after f k).t) ∧ w3.cell? ⟨w2.heap.size, 2, none⟩ = some (.int .i64 (St.after f k).d) ∧ w3.cell? (ad.add k) = some (.int .i64 (f k)) :=
          ⟨(hb3.cell (block_lt_of_cell hS.1)).trans hS.1, (hb3.cell (block_lt_of_cell hS.2.1)).trans hS.2.1, (hb3.cell (block_lt_of_cell hS.2.2.1)).trans hS.2.2.1, (hb3.cell (block_lt_of_cell hS.2.2.2)).trans hS.2.2.2⟩
        refine hK _ _ S3 (fun _ => ?_)
        clear hK K hS
        have hbd : Below wr.heap.size wr w3 := ⟨hb3.os, hb3.tape, hb3.output, hb3.size, hb3.block⟩
        clear hb3
        generalize hco : (St.after f k).cost (f k) = co at *
        have HCO := Lib.hid hco; clear hco
        have hsum : IntKind.i64.wrap ((bl : Int) + (co : Int)) = (bl : Int) + (co : Int) := IntWalk.i64_in _ (by omega)
        refine wpAnyH_pick (by kernel_rfl) Only.panic (w := w3) S3 [7, 8] 0 _ _ (by kernel_rfl) ?_
        refine PickOk.value (v := .int .i64 ((bl : Int) + (co : Int))) rfl rfl (by kernel_rfl) (fun U hU => (by go_simp)) ?_
        refine PickOk.value (v := .int .i64 ((bl : Int) + (co : Int))) rfl rfl (by kernel_rfl) (fun U hU => (by go_simp)) ?_
        simp only [PickOk, Act.put, List.setIfInBounds_toArray]
        refine wpAnyH_done (by kernel_rfl) ?_ _
        refine Only.next ?_
        clear S3 hsum
        obtain ⟨ad2, hadd, c0, -⟩ := HA.out.at_ (HB.out.trans (hbd.mono HB.out.size)) hlt
        obtain rfl := Option.some.inj hadd
        have HW3 := Lib.hid (HW.out.later hbd); have HS3 := Lib.hid (HS.out.later hbd); have HB3 := Lib.hid (HB.out.trans (hbd.mono HB.out.size))
        have HT3 : Hid (ClsOk w3) := Lib.hid (HT.out.later HB3.out)
        clear hbd hadd
        obtain ⟨e0, e1, e2⟩ := HS3.out.cells
        go_upto_region 13 with fail
        refine plain_still_tail 6 (by kernel_rfl) (by kernel_rfl) ?_
        simp only [List.take_succ_cons, List.take_zero, List.drop_succ_cons, List.drop_zero]
        repeat still_step
        refine wpStill_nil ?_
        go_wp2_with fail
        refine (stPut_any w.heap.size p A2 cap2 (St.bits f k) (by rw [HBL.out]; omega) (St.after f k) (f k) w3.drew (fun k hk j hj => HT3.out k hk j hj) HW3.out.drew (by have := HB3.out.size; exact this)).mono ?_
        rintro e w4 ⟨rfl, A4, cap4, hw4, hN, hF⟩
        have hs4 : StateAt w4 w2.heap.size (St.after f k) := (hF.undrew.same _ HS3.out.lt (row_not HW3.out HS3.out (by decide) (by omega))).trans HS3.out
        have hb4 : Below w.heap.size w w4 := HB3.out.trans (hF.undrew.below HB3.out.size (putSet_base HW3.out hpw))
        obtain ⟨n2, t2, d2, hnx⟩ : ∃ n2 t2 d2, (St.after f k).next (f k) = ⟨n2, t2, d2⟩ := ⟨_, _, _, rfl⟩
        have hgr := grown_three w4 w2.heap.size 0 1 2 (.int .i64 n2) (.int .i64 t2) (.int .i64 d2)
        have HN := Lib.hid (hs4.set n2 t2 d2)
        have HBN := Lib.hid (hb4.grown hgr hb4.size (fun r e => by cases e; omega))
        have HWN : Hid (WrAt (((w4.setCell ⟨w2.heap.size, 0, none⟩ (.int .i64 n2)).setCell ⟨w2.heap.size, 1, none⟩ (.int .i64 t2)).setCell ⟨w2.heap.size, 2, none⟩ (.int .i64 d2)) w.heap.size p A4 cap4 _) := Lib.hid (RowAt.keep hw4 (hgr.block _ hw4.lt (by simp; omega)) (fun r hr => hgr.block _ (by subst hr; exact (row_block hw4.own rfl).2.1) (by
          have hne : r ≠ w2.heap.size := by subst hr; exact own_ne hw4.own hs4 (by decide)
          simp; omega)))
        obtain ⟨r0, r1, r2⟩ := hs4.cells
        obtain ⟨f0, f1, f2⟩ := hs4.free
        rw [show ((St.after f k).next (f k)).val = .agg #[.int .i64 n2, .int .i64 t2, .int .i64 d2] from by rw [hnx]; rfl]
        have HNX := Lib.hid hnx
        clear hnx hs4 hb4 hgr hw4 hN hF c0 e0 e1 e2
        go_wp2_with fail
        go_roundw
        case rel => exact ⟨k + 1, A4, cap4, by omega, by go_num, by rw [HBN0.out, Int.natCast_add], HWN.out, by rw [show St.after f (k + 1) = ⟨n2, t2, d2⟩ from HNX.out]; exact HN.out, HBN.out⟩
        case measure => simp [intOf]; omega
      · obtain rfl : k = len := by omega
        have HTk : Hid (ClsOk wr) := Lib.hid (HT.out.later HB.out)
        have HAk := Lib.hid (HA.out.later HB.out)
        go_wp2_with fail
        refine (Len_any _ HW.out).mono ?_; rintro e wx ⟨rfl, rfl⟩
        go_wp2_with fail
        refine (Bytes_any _ HW.out).mono ?_; rintro e wy ⟨rfl, rfl⟩
        go_wp2_with fail
        refine (stAll_any _ HTk.out A k cap f (by omega) HAk.out).mono ?_; rintro e w5 ⟨rfl, hb5⟩
        have HS5 := Lib.hid (HS.out.later hb5); have HB5 := Lib.hid (HB.out.trans (hb5.mono HB.out.size))
        clear hb5
        obtain ⟨e0, -, -⟩ := HS5.out.cells
        rw [St.after_n f k (by omega)] at e0
        go_wp2_with fail
        go_ret
        exact ⟨by simp, HB5.out⟩
  · have d0 : decide ((60 : Int) < (len : Int)) = true := by simp; omega
    go_enter Tryd.func8, Tryd.ntmps8
    go_wp2_with fail
    refine (works_any _ HT.out).mono ?_; rintro e w1 ⟨rfl, hb1⟩
    have HB1 := Lib.hid hb1; clear hb1
    go_wp2_with fail
    refine (NewWriter_any _).mono ?_; rintro e w2 ⟨rfl, hw2⟩
    have hb2 : Below w.heap.size w w2 := by rw [hw2]; exact HB1.out.alloc HB1.out.size _
    have HB2 := Lib.hid hb2; clear hb2 hw2
    go_wp2_with fail
    go_ret
    exact ⟨rfl, HB2.out⟩
theorem stampCosts_walk {H : Type} {enc : TypeId × Value → H} {r : Reach} {b0 : Nat} {v : Value} {d : DataW H} {p : List MemPlace} (w : World) (hT : ClsOk w)
    (hv : Value.okWide Tryd.prog w r b0 47 v) (h : DataW.Trod enc Tryd.prog w 0 (fun _ => true) true 47 v d p) :
    Calls Tryd.prog 8 #[v] w fun e w' => e = .returned (.bool true) ∧ Below w.heap.size w w' := by
  obtain ⟨A, m, c, f, rfl, hm, hA⟩ := open_ints_row (k := .i64) Tryd.underlying47 Tryd.underlying2 (by kernel_rfl) hv h
  exact stampCosts_walk0 w hT A m c f hm hA
end Go.Proofs.YtopdhcbhhkajpaaDoor
