/-
  What Read of the document's answer for package value comes to.
-/
import Derived.Test.YtahdfcflgicpkaaDoorVaPC
import Derived.Test.YtahdfcflgicpkaaDoorVaJ
namespace Go.Proofs.YtahdfcflgicpkaaDoor
open Go.RowKit

set_option maxRecDepth 100000 in
set_option maxHeartbeats 1000000 in
theorem rVRead_any (b : ByteArray) (hb : b.size ≤ 60) (n : Int) (w : World) :
    Calls Tryd.prog 10 #[.string b, .int .i64 n] w fun e w' => VReads b n w e w' := by
  by_cases hn : n < 0 ∨ 10000 < n
  · have hnone : Va.read b n = none := by unfold Va.read; rw [if_pos hn]
    have HN := Lib.hid hnone; clear hnone
    by_cases h0 : n < 0
    · have e0 : decide (n < 0) = true := by simp [h0]
      clear hn
      go_enter Tryd.func10, Tryd.ntmps10
      go_wp2_with fail
      go_ret2
      exact ⟨none, 0, [], false, rfl, Below.refl _ _, fun h => absurd h (Nat.lt_irrefl 0), .inr ⟨rfl, rfl, HN.out⟩⟩
    · have e0 : decide (n < 0) = false := by simp; omega
      have e1 : decide (10000 < n) = true := by simp; omega
      clear hn
      go_enter Tryd.func10, Tryd.ntmps10
      go_wp2_with fail
      go_ret2
      exact ⟨none, 0, [], false, rfl, Below.refl _ _, fun h => absurd h (Nat.lt_irrefl 0), .inr ⟨rfl, rfl, HN.out⟩⟩
  · obtain ⟨m, rfl⟩ : ∃ m : Nat, n = m := ⟨n.toNat, by omega⟩
    have hm : m ≤ 10000 := by omega
    have e0 : decide ((m : Int) < 0) = false := by simp
    have e1 : decide (10000 < (m : Int)) = false := by simp; omega
    clear hn
    go_enter Tryd.func10, Tryd.ntmps10
    go_wp2_with fail
    refine (rOf_any b hb _).mono ?_; rintro e wx ⟨rfl, rfl⟩
    obtain ⟨i0, hi, hz0, hz1, hz2⟩ := info_parts Tryd.info_u64
    have hbl : (Bit.bits b).length = 8 * b.size := Bit.bits_length b
    have hbg := fun W => rVBegin_any W
    rw [show (Va.S.val ⟨0, 0, 64, 0⟩) = .agg #[.int .i64 0, .int .u64 0, .int .i64 64, .int .i64 0] from rfl] at hbg
    have HBG := Lib.hid hbg; clear hbg
    go_wp2_with fail
    refine (HBG.out _).mono ?_; rintro e wb ⟨rfl, hbb⟩
    have HBB := Lib.hid hbb
    have hbz : wx.heap.size ≤ wb.heap.size := hbb.size
    clear hbb
    generalize hgx : wb.heap.size = gx at *
    go_wp2_with fail
    go_loopw [6, 8, 9] (fun sv lv i wr => ∃ (k : Nat) (A : Option Addr) (cap : Nat) (s : Va.S) (l : List Nat) (q : Nat), k ≤ m ∧ sv = .string (Bit.str ((Bit.bits b).drop q)) ∧ lv = .slice A k cap ∧ i = .int .i64 k ∧ Va.run (Bit.bits b) k = some (s, l, q) ∧
      wr.ownsRow wx.heap.size 29 1 (.slice A k cap) k (natVals l) ∧ RVStAt wr gx s ∧ Below wx.heap.size wx wr) (fun _ _ i _ => m - (intOf i).toNat)
    case atStart => exact ⟨0, _, _, ⟨0, 0, 64, 0⟩, [], 0, by omega, rfl, rfl, rfl, rfl, World.ownsRow_nil _ _ _ _, by rw [← hgx]; exact RowIs.one _ _, HBB.out.alloc HBB.out.size _⟩
    case round =>
      obtain ⟨k, A, cap, s, l, q, hk, rfl, rfl, rfl, hrun2, hown, hst, hbl2⟩ := hrel
      have HRUN := Lib.hid hrun2; have HO := Lib.hid hown; have HSt := Lib.hid hst; have HB := Lib.hid hbl2
      obtain ⟨e0, e1, e2, e3⟩ := hst.cells
      obtain ⟨l1, l2, l3, l4, l5, l6, l7, l8, l9⟩ := Va.run_some _ _ (by omega) hrun2
      have L7 := Lib.hid l7
      have hlk : l.length = k := l1
      have hgl := hst.lt
      clear hrun2 hown hst hbl2 l1 l2 l3 l4 l5 l6 l7
      by_cases hlt : k < m
      · have hget := rVGet_any ((Bit.bits b).drop q) (by rw [List.length_drop]; omega) s l8 (by omega) wr
        rw [show s.val = .agg #[.int .i64 s.n, .int .u64 s.v, .int .i64 s.l, .int .i64 s.t] from rfl] at hget
        have HG := Lib.hid hget; clear hget l8 l9
        go_wp2_with fail
        refine HG.out.mono ?_
        rintro e w4 ⟨hb4, ⟨t, hg, rfl⟩ | ⟨hg, rfl⟩⟩
        · obtain ⟨n2, l2, d2, hnx⟩ : ∃ n2 l2 d2, s.next t = ⟨n2, t, l2, d2⟩ := by unfold Va.S.next; split <;> exact ⟨_, _, _, rfl⟩
          have hrow := own_far2 HO.out hb4
          have hst4 := HSt.out.later hb4
          have hbw4 : Below wx.heap.size wx w4 := HB.out.trans (hb4.mono HB.out.size)
          have hx : (s.next t).val = .agg #[.int .i64 n2, .int .u64 t, .int .i64 l2, .int .i64 d2] := by rw [hnx]; rfl
          rw [hx]
          have HNX := Lib.hid hnx; have HG2 := Lib.hid hg
          rw [List.drop_drop]
          generalize hq2 : q + s.cost t = q2 at *
          have HQ2 := Lib.hid hq2
          clear hq2 hnx hg hx HG HO HSt e0 e1 e2 e3 hb4
          go_upto_region 12 with fail
          have hal : Below w4.heap.size w4 (w4.alloc (.cells #[.int .i64 n2, .int .u64 t, .int .i64 l2, .int .i64 d2] 46)) := (Below.refl _ _).alloc (Nat.le_refl _) _
          have HY : Hid (RVStAt (w4.alloc (.cells #[.int .i64 n2, .int .u64 t, .int .i64 l2, .int .i64 d2] 46)) w4.heap.size ⟨n2, t, l2, d2⟩) := Lib.hid (RowIs.one _ _)
          have HO5 := Lib.hid (own_far2 hrow hal); have HST5 := Lib.hid (hst4.later hal); have HB5 := Lib.hid (hbw4.trans (hal.mono hbw4.size))
          have hz4 : w4.heap.size < (w4.alloc (.cells #[.int .i64 n2, .int .u64 t, .int .i64 l2, .int .i64 d2] 46)).heap.size := by simp
          have hgy : gx < w4.heap.size := hst4.lt
          generalize w4.alloc (.cells #[.int .i64 n2, .int .u64 t, .int .i64 l2, .int .i64 d2] 46) = w5 at *
          generalize w4.heap.size = gy at *
          obtain ⟨-, c1, -, -⟩ := HY.out.cells
          have hown := HO5.out
          have hbs : wx.heap.size ≤ w5.heap.size := HB5.out.size
          clear hal hrow hst4 hbw4
          go_upto_region 13 with (at_builtin; go_must (refine wpList_append_own _ rfl _ _ 22 rfl wx.heap.size 29 i0 (.int .u64 0) 1 8 Tryd.underlying22 hi hz0 hz1 hz2 rfl (by decide) _ _ _ rfl (hown.alloc _) ⟨w5.heap.size, 0, none⟩ 1 1 [.int .u64 t] rfl rfl (cell_one_new _ _ _) (by simp [Value.oneCell']) (by unfold maxLen; omega) (by omega) (by simp; omega) ?_); intro v' w6 hown' hgrow _)
          obtain ⟨A6, c6, rfl⟩ := own_form hown'
          have hs6 : RVStAt (w5.alloc (.cells #[.int .u64 t] 29)) gx s := HST5.out.later ((Below.refl _ _).alloc (Nat.le_refl _) _)
          have hy6 : RVStAt (w5.alloc (.cells #[.int .u64 t] 29)) gy ⟨n2, t, l2, d2⟩ := HY.out.later ((Below.refl _ _).alloc (Nat.le_refl _) _)
          have hb6 : Below wx.heap.size wx (w5.alloc (.cells #[.int .u64 t] 29)) := HB5.out.alloc hbs _
          have hlow := fun r hr => ((hown.alloc (.cells #[.int .u64 t] 29)).lt r hr).1
          have hs7 : RVStAt w6 gx s := (hgrow.block _ hs6.lt (fun e => own_block_ne (hown.alloc (.cells #[.int .u64 t] 29)) hs6 (by decide) e.symm)).trans hs6
          have hy7 : RVStAt w6 gy ⟨n2, t, l2, d2⟩ := (hgrow.block _ hy6.lt (fun e => own_block_ne (hown.alloc (.cells #[.int .u64 t] 29)) hy6 (by decide) e.symm)).trans hy6
          have hb7 : Below wx.heap.size wx w6 := hb6.grown hgrow (by simp; omega) hlow
          obtain ⟨a0, a1, a2, a3⟩ := hs7.cells
          obtain ⟨f0, f1, f2, f3⟩ := hs7.free
          obtain ⟨y0, y1, y2, y3⟩ := hy7.cells
          have hgr := grown_four w6 gx 0 1 2 3 (.int .i64 n2) (.int .u64 t) (.int .i64 l2) (.int .i64 d2)
          have HST8 := Lib.hid (hs7.set ⟨n2, t, l2, d2⟩)
          have HO8 := Lib.hid (hown'.kept hgr (.inr (own_block_ne hown' hs7 (by decide))))
          have HB8 := Lib.hid (hb7.grown hgr hb7.size (fun r e => by cases e; omega))
          clear hs6 hy6 hb6 hs7 hy7 hb7 hown' hgrow hgr hlow c1
          go_wp2_with fail
          go_roundw
          case rel =>
            refine ⟨k + 1, A6, c6, s.next t, l ++ [t], q2, by omega, rfl, rfl, by go_num, ?_, ?_, by rw [HNX.out]; exact HST8.out, HB8.out⟩
            · rw [Va.run_succ HRUN.out, HG2.out, ← HQ2.out]
            · show World.ownsRow _ _ _ _ _ _ ((l ++ [t]).map _)
              rw [List.map_append]; exact HO8.out
          case measure => simp [intOf]; omega
        · have hbw4 : Below wx.heap.size wx w4 := HB.out.trans (hb4.mono HB.out.size)
          have HB5 : ∀ o, Hid (Below wx.heap.size wx (w4.alloc o)) := fun o => Lib.hid (hbw4.alloc hbw4.size o)
          have hnone : Va.read b (m : Int) = none := by
            unfold Va.read
            rw [if_neg (by omega), Int.toNat_natCast, Va.run_none (k := k + 1) (by rw [Va.run_succ HRUN.out, hg]) m (by omega)]
          have HN := Lib.hid hnone
          rw [show s.val = .agg #[.int .i64 s.n, .int .u64 s.v, .int .i64 s.l, .int .i64 s.t] from rfl]
          clear HG hg hb4 hbw4 hnone e0 e1 e2 e3
          go_wp2_with fail
          go_ret2
          exact ⟨none, 0, [], false, rfl, (HB5 _).out, fun h => absurd h (Nat.lt_irrefl 0), .inr ⟨rfl, rfl, HN.out⟩⟩
      · obtain rfl : k = m := by omega
        have hcl := fun W => rClean_any ((Bit.bits b).drop q) (by rw [List.length_drop]; omega) W (Bit.clean ((Bit.bits b).drop q)) rfl
        have hrd : Va.read b (k : Int) = if Bit.clean ((Bit.bits b).drop q) then some l else none := by
          unfold Va.read
          rw [if_neg (by omega), Int.toNat_natCast, HRUN.out]
        have HRDD := Lib.hid hrd; have HCL := Lib.hid hcl; clear hrd hcl
        generalize Bit.clean ((Bit.bits b).drop q) = o at *
        go_wp2_with fail
        refine (HCL.out _).mono ?_; rintro e w4 ⟨rfl, rfl⟩
        cases o
        · go_wp2_with fail
          go_ret2
          exact ⟨none, 0, [], false, rfl, HB.out, fun h => absurd h (Nat.lt_irrefl 0), .inr ⟨rfl, rfl, HRDD.out⟩⟩
        · go_wp2_with fail
          go_ret2
          refine ⟨A, cap, l, true, by rw [hlk]; rfl, HB.out, ?_, .inl ⟨rfl, HRDD.out⟩⟩
          rw [hlk]
          exact own_natRow HO.out hlk.symm L7.out
end Go.Proofs.YtahdfcflgicpkaaDoor
