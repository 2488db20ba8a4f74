/-
  What Read of package value comes to.
-/
import Derived.Test.YtfgcgjogaaofdaaGreatDoorVaH
import Derived.Test.YtfgcgjogaaofdaaGreatDoorVaI
namespace Go.Proofs.YtfgcgjogaaofdaaGreatDoor
open Go.RowKit

theorem Tryz.info_u64 : (Tryz.prog.info? 28).map (fun i => (i.zero, i.size, i.bytes)) = some (some (.int .u64 0), 1, 8) := by kernel_rfl
theorem vClean_any (p : Nat) (b : ByteArray) (hs : b.size ≤ 137438953472) (x : Nat) (hx : x ≤ 8 * b.size) (w : World) (h : RdAt w p b x) :
    Calls Tryz.prog 76 #[.pointer (some ⟨p, 0, none⟩)] w fun e w' => e = .returned (.bool (Bit.clean ((Bit.bits b).drop x))) ∧ Below w.heap.size w w' := by
  have hl : ((Bit.bits b).drop x).length = 8 * b.size - x := by rw [List.length_drop, Bit.bits_length]
  refine Clean_any p b hs x hx w h _ ?_
  unfold Bit.clean
  rw [hl]
  by_cases h8 : 8 * b.size - x < 8
  · rw [List.take_of_length_le (by rw [hl]; unfold Bit.wd; omega)]
  · simp [h8]
/-- integers of the call's own -/
def natVals (l : List Nat) : List Value := l.map (fun (t : Nat) => Value.int .u64 (t : Int))
theorem own_natRow {W : World} {base e n cap : Nat} {A : Option Addr} {l : List Nat} (h : W.ownsRow base e 1 (.slice A n cap) n (natVals l)) (hn : n = l.length) (hr : ∀ t ∈ l, t < 18446744073709551616) : IntRow W A n .u64 (fun i => ((l.getD i 0 : Nat) : Int)) := by
  intro hpos
  rcases h.2 with ⟨h2, h3⟩ | ⟨g, c, cur, hv, _, hg, _⟩
  · omega
  · simp only [Value.slice.injEq] at hv
    obtain ⟨rfl, _, rfl⟩ := hv
    refine ⟨⟨g, 0, none⟩, rfl, (Array.getElem?_eq_some_iff.1 hg).1, fun i hi => ?_⟩
    have hi2 : i < l.length := by omega
    have hc := h.cells (g := g) rfl i (.int .u64 (l.getD i 0 : Nat)) (by simp [natVals, List.getD, hi2])
    refine ⟨hc, ?_⟩
    have := hr (l.getD i 0) (by simp [List.getD, hi2])
    show (Lit.int .u64 ((l.getD i 0 : Nat) : Int)).wf = true
    generalize l.getD i 0 = t at *
    simp [Lit.wf, IntKind.min, IntKind.max, IntKind.signed, IntKind.bits]; omega
/-- what a reading of rows tells -/
def VReads (b : ByteArray) (n : Int) (w : World) (e : Ending) (w' : World) : Prop := ∃ (A : Option Addr) (cap : Nat) (l : List Nat) (o : Bool), e = .returned (.tuple #[.slice A l.length cap, .bool o]) ∧ Below w.heap.size w w' ∧
      IntRow w' A l.length .u64 (fun i => ((l.getD i 0 : Nat) : Int)) ∧ ((o = true ∧ Va.read b n = some l) ∨ (o = false ∧ l = [] ∧ Va.read b n = none))
set_option maxRecDepth 100000 in
set_option maxHeartbeats 1000000 in
theorem vRead_any (b : ByteArray) (hb : b.size ≤ 137438953472) (n : Int) (w : World) (hT : TabOk w) :
    Calls Tryz.prog 62 #[.string b, .int .i64 n] w fun e w' => VReads b n w e w' := by
  by_cases hn : n < 0 ∨ 10000 < n
  · have hnone : Va.read b n = none := by unfold Va.read; rw [if_pos hn]
    have HN := Lib.hid hnone; clear hnone
    by_cases h0 : n < 0
    · have e0 : decide (n < 0) = true := by simp [h0]
      clear hn
      go_enter Tryz.func62, Tryz.ntmps62
      go_wp2_with fail
      go_ret2
      exact ⟨none, 0, [], false, rfl, Below.refl _ _, fun h => absurd h (Nat.lt_irrefl 0), .inr ⟨rfl, rfl, HN.out⟩⟩
    · have e0 : decide (n < 0) = false := by simp; omega
      have e1 : decide (10000 < n) = true := by simp; omega
      clear hn
      go_enter Tryz.func62, Tryz.ntmps62
      go_wp2_with fail
      go_ret2
      exact ⟨none, 0, [], false, rfl, Below.refl _ _, fun h => absurd h (Nat.lt_irrefl 0), .inr ⟨rfl, rfl, HN.out⟩⟩
  · obtain ⟨m, rfl⟩ : ∃ m : Nat, n = m := ⟨n.toNat, by omega⟩
    have hm : m ≤ 10000 := by omega
    have e0 : decide ((m : Int) < 0) = false := by simp
    have e1 : decide (10000 < (m : Int)) = false := by simp; omega
    have HT := Lib.hid hT; clear hT hn
    go_enter Tryz.func62, Tryz.ntmps62
    go_wp2_with fail
    refine (NewReader_any b _).mono ?_; rintro e w2 ⟨rfl, hw2⟩
    have hrd : RdAt w2 w.heap.size b 0 := by rw [hw2]; exact RowIs.one w _
    have hb2 : Below w.heap.size w w2 := by rw [hw2]; exact (Below.refl _ _).alloc (Nat.le_refl _) _
    have HR2 := Lib.hid hrd; have HB2 := Lib.hid hb2; clear hrd hb2 hw2
    obtain ⟨i0, hi, hz0, hz1, hz2⟩ := info_parts Tryz.info_u64
    obtain ⟨w3, hrun, hown, hg3⟩ := run_make_own (P := Tryz.prog) w2 w.heap.size 46 28 i0 (.int .u64 0) 1 Tryz.underlying46 hi hz0 hz1 .i64 .i64 m (by rw [hz2]; omega) (by unfold maxLen; omega) HB2.out.size
    have HR3 : Hid (RdAt w3 w.heap.size b 0) := Lib.hid ((hg3.block _ HR2.out.lt (by simp)).trans HR2.out)
    have HB3 : Hid (Below w.heap.size w w3) := Lib.hid (HB2.out.grown hg3 HB2.out.size (fun r e => by cases e))
    have HT3 : Hid (TabOk w3) := Lib.hid (HT.out.later HB3.out)
    have HO3 := Lib.hid hown
    have hgp : w.heap.size < w2.heap.size := HR2.out.lt
    have hz3 := hg3.size
    clear hown hg3
    generalize hpe : w.heap.size = p at *
    go_wp2_with fail
    go_loopw [7, 22] (fun lv i wr => ∃ (k : Nat) (A : Option Addr) (cap : Nat) (s : Va.S) (l : List Nat) (q : Nat), k ≤ m ∧ lv = .slice A k cap ∧ i = .int .i64 k ∧ Va.run (Bit.bits b) k = some (s, l, q) ∧
      wr.ownsRow p 28 1 (.slice A k cap) k (natVals l) ∧ RdAt wr p b q ∧ VStAt wr w3.heap.size s ∧ Below p w wr ∧ TabOk wr) (fun _ i _ => m - (intOf i).toNat)
    case atStart => exact ⟨0, _, _, ⟨0, 0, 64, 0⟩, [], 0, by omega, rfl, rfl, rfl, HO3.out.alloc _, HR3.out.below ((Below.refl _ _).alloc (Nat.le_refl _) _), RowIs.one _ _, HB3.out.alloc (by have := HB3.out.size; omega) _, HT3.out.later ((Below.refl _ _).alloc (Nat.le_refl _) _)⟩
    case round =>
      obtain ⟨k, A, cap, s, l, q, hk, rfl, rfl, hrun2, hown, hrd, hst, hbl, hcls⟩ := hrel
      clear hrun
      have HRUN := Lib.hid hrun2; have HO := Lib.hid hown; have HRd := Lib.hid hrd; have HSt := Lib.hid hst; have HB := Lib.hid hbl; have HC := Lib.hid hcls
      obtain ⟨e0, e1, e2, e3⟩ := hst.cells
      obtain ⟨l1, l2, l3, l4, l5, l6, l7, l8, l9⟩ := Va.run_some _ _ (by omega) hrun2
      have L7 := Lib.hid l7
      have hlk : l.length = k := l1
      have hq : q ≤ 8 * b.size := by rw [Bit.bits_length] at l6; exact l6
      clear hrun2 hown hrd hst hbl hcls l1 l2 l3 l4 l5 l6 l7
      by_cases hlt : k < m
      · have hget := vGet_any p b hb q hq s l8 (by rw [l9]; omega) wr HC.out HRd.out
        rw [show s.val = .agg #[.int .i64 s.n, .int .u64 s.v, .int .i64 s.l, .int .i64 s.t] from rfl] at hget
        have HG := Lib.hid hget; clear hget l8 l9
        go_wp2_with fail
        refine HG.out.mono ?_
        rintro e w4 ⟨hf4, ⟨t, hg, rfl, hr4⟩ | ⟨hg, rfl, hr4⟩⟩
        · obtain ⟨n2, l2, d2, hnx⟩ : ∃ n2 l2 d2, s.next t = ⟨n2, t, l2, d2⟩ := by unfold Va.S.next; split <;> exact ⟨_, _, _, rfl⟩
          have hrow := own_far HO.out HRd.out (by decide) hf4
          have hst4 := HSt.out.far hf4 (by omega)
          obtain ⟨a0, a1, a2, a3⟩ := hst4.cells
          obtain ⟨f0, f1, f2, f3⟩ := hst4.free
          have hgr := grown_four w4 w3.heap.size 0 1 2 3 (.int .i64 n2) (.int .u64 t) (.int .i64 l2) (.int .i64 d2)
          have HST5 : Hid (VStAt _ w3.heap.size (s.next t)) := Lib.hid (by rw [hnx]; exact hst4.set ⟨n2, t, l2, d2⟩)
          have HO5 := Lib.hid (hrow.kept hgr (.inr (own_block_ne hrow hst4 (by decide))))
          have HR5 : Hid (RdAt _ p b (q + s.cost t)) := Lib.hid (hr4.four (g := w3.heap.size) (x := .int .i64 n2) (y := .int .u64 t) (z := .int .i64 l2) (u := .int .i64 d2) (by omega))
          have hb4 : Below p w w4 := HB.out.trans (hf4.below (by have := HB.out.size; omega) (fun k hk => Nat.le_of_eq (show p = k from (show k = p from hk).symm)))
          have HB5 := Lib.hid (hb4.grown hgr (by have := hb4.size; omega) (fun r e => by cases e; omega))
          have HC4 : Hid (TabOk w4) := Lib.hid (HC.out.far hf4 (HC.out.not_reader HRd.out))
          have HC5 := Lib.hid (HC4.out.grown hgr (fun r e => by cases e; have := HT.out.pos; omega))
          have HG2 := Lib.hid hg
          rw [show (s.next t).val = .agg #[.int .i64 n2, .int .u64 t, .int .i64 l2, .int .i64 d2] from by rw [hnx]; rfl]
          have HNX := Lib.hid hnx
          clear hnx HG hg hf4 hr4 hrow hst4 hgr hb4 e0 e1 e2 e3 HO HSt
          go_upto_region 12 with fail
          generalize (((w4.setCell ⟨w3.heap.size, 0, none⟩ (.int .i64 n2)).setCell ⟨w3.heap.size, 1, none⟩ (.int .u64 t)).setCell ⟨w3.heap.size, 2, none⟩ (.int .i64 l2)).setCell ⟨w3.heap.size, 3, none⟩ (.int .i64 d2) = w5 at *
          obtain ⟨-, c1, -, -⟩ := HST5.out.cells
          rw [HNX.out] at c1
          have hown := HO5.out
          have hbs : p ≤ w5.heap.size := by have := HB5.out.size; omega
          clear a0 a1 a2 a3 f0 f1 f2 f3
          go_wp2_with (at_builtin; go_must (refine wpList_append_own _ rfl _ _ 46 rfl p 28 i0 (.int .u64 0) 1 8 Tryz.underlying46 hi hz0 hz1 hz2 rfl (by decide) _ _ _ rfl (hown.alloc _) ⟨w5.heap.size, 0, none⟩ 1 1 [.int .u64 t] rfl rfl (cell_one_new _ _ _) (by simp [Value.oneCell']) (by unfold maxLen; omega) (by omega) (by simp; omega) ?_); intro v' w6 hown' hgrow _)
          obtain ⟨A6, c6, rfl⟩ := own_form hown'
          have hr6 : RdAt (w5.alloc (.cells #[.int .u64 t] 28)) p b (q + s.cost t) := HR5.out.below ((Below.refl _ _).alloc (Nat.le_refl _) _)
          have hs6 : VStAt (w5.alloc (.cells #[.int .u64 t] 28)) w3.heap.size (s.next t) := HST5.out.later ((Below.refl _ _).alloc (Nat.le_refl _) _)
          have hc6 : TabOk (w5.alloc (.cells #[.int .u64 t] 28)) := HC5.out.later ((Below.refl _ _).alloc (Nat.le_refl _) _)
          have hb6 : Below p w (w5.alloc (.cells #[.int .u64 t] 28)) := HB5.out.alloc hbs _
          have hlow := fun r hr => ((hown.alloc (.cells #[.int .u64 t] 28)).lt r hr).1
          go_roundw
          case rel =>
            refine ⟨k + 1, A6, c6, s.next t, l ++ [t], q + s.cost t, by omega, rfl, by go_num, ?_, ?_, ?_, ?_, hb6.grown hgrow (by simp; omega) hlow, ?_⟩
            · rw [Va.run_succ HRUN.out, HG2.out]
            · show w6.ownsRow _ _ _ _ _ ((l ++ [t]).map _)
              rw [List.map_append]; exact hown'
            · exact (hgrow.block p hr6.lt (fun e => own_block_ne (hown.alloc (.cells #[.int .u64 t] 28)) hr6 (by decide) e.symm)).trans hr6
            · exact (hgrow.block _ hs6.lt (fun e => own_block_ne (hown.alloc (.cells #[.int .u64 t] 28)) hs6 (by decide) e.symm)).trans hs6
            · exact hc6.grown hgrow (fun r hr => by have := hlow r hr; have := hpe; have := HT.out.pos; omega)
          case measure => simp [intOf]; omega
        · rw [show s.val = .agg #[.int .i64 s.n, .int .u64 s.v, .int .i64 s.l, .int .i64 s.t] from rfl]
          have hst4 := HSt.out.far hf4 (by omega)
          obtain ⟨a0, a1, a2, a3⟩ := hst4.cells
          obtain ⟨f0, f1, f2, f3⟩ := hst4.free
          have hb4 : Below p w w4 := HB.out.trans (hf4.below (by have := HB.out.size; omega) (fun k hk => Nat.le_of_eq (show p = k from (show k = p from hk).symm)))
          have HB5 := Lib.hid (hb4.grown (grown_four w4 w3.heap.size 0 1 2 3 (.int .i64 s.n) (.int .u64 s.v) (.int .i64 s.l) (.int .i64 s.t)) (by have := hb4.size; omega) (fun r e => by cases e; omega))
          have hnone : Va.read b (m : Int) = none := by
            unfold Va.read
            rw [if_neg (by omega), Int.toNat_natCast, Va.run_none (k := k + 1) (by rw [Va.run_succ HRUN.out, hg]) m (by omega)]
          have HN := Lib.hid hnone
          clear HG hg hf4 hr4 hst4 hb4 hnone e0 e1 e2 e3
          go_wp2_with fail
          go_ret2
          subst hpe
          exact ⟨none, 0, [], false, rfl, HB5.out, fun h => absurd h (Nat.lt_irrefl 0), .inr ⟨rfl, rfl, HN.out⟩⟩
      · obtain rfl : k = m := by omega
        have hcl := vClean_any p b hb q hq wr HRd.out
        have hrd : Va.read b (k : Int) = if Bit.clean ((Bit.bits b).drop q) then some l else none := by
          unfold Va.read
          rw [if_neg (by omega), Int.toNat_natCast, HRUN.out]
        have HRDD := Lib.hid hrd; have HCL := Lib.hid hcl; clear hrd hcl
        generalize Bit.clean ((Bit.bits b).drop q) = o at *
        go_wp2_with fail
        refine HCL.out.mono ?_; rintro e w4 ⟨rfl, hb4⟩
        have HB4 := Lib.hid (HB.out.trans (hb4.mono (by have := HB.out.size; omega)))
        have HO4 := Lib.hid (own_far2 HO.out hb4)
        clear hb4
        cases o
        · go_wp2_with fail
          go_ret2
          subst hpe
          exact ⟨none, 0, [], false, rfl, HB4.out, fun h => absurd h (Nat.lt_irrefl 0), .inr ⟨rfl, rfl, HRDD.out⟩⟩
        · go_wp2_with fail
          go_ret2
          subst hpe
          refine ⟨A, cap, l, true, by rw [hlk]; rfl, HB4.out, ?_, .inl ⟨rfl, HRDD.out⟩⟩
          rw [hlk]
          exact own_natRow HO4.out hlk.symm L7.out
end Go.Proofs.YtfgcgjogaaofdaaGreatDoor
