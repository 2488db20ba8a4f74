import Derived.Test.YtliobahnekohmaaGreatIwA
import Derived.Test.YtliobahnekohmaaGreatBld
import Derived.Test.YtliobahnekohmaaGreatNumG
import Derived.Test.YtliobahnekohmaaGreatMapF
import Derived.Test.YtliobahnekohmaaGreatIxN
import Derived.Test.YtliobahnekohmaaGreatRow
import Derived.BigQuiet
/-
  The writer of entries: a builder and a map in one block; its methods text and small.
-/
namespace Go.Proofs.YtliobahnekohmaaGreat
open Go.RowKit
def WrAt (W : World) (base b mb : Nat) (l : List UInt8) : Prop :=
 base ≤ b ∧ ∃ p v, (p = Value.pointer none ∨ p = Value.pointer (some ⟨b, 0, none⟩)) ∧ W.heap[b]? = some (.cells #[p, v, .map (some mb)] 71 (0, 0)) ∧ W.ownsRow base 5 1 v l.length (byteVals l)
theorem WrAt.later {W V : World} {base b mb : Nat} {l : List UInt8} (h : WrAt W base b mb l) (hb : Below W.heap.size W V) : WrAt V base b mb l := by
 obtain ⟨h1, p, v, h2, h3, h4⟩ := h
 exact ⟨h1, p, v, h2, heap_keep h3 hb, row_far h4 hb⟩
theorem WrAt.map {W : World} {base b mb : Nat} {l : List UInt8} (h : WrAt W base b mb l) : W.cell? ⟨b, 2, none⟩ = some (.map (some mb)) := by
 obtain ⟨h1, p, v, h2, h3, h4⟩ := h
 exact cell_of_row W b 2 _ _ _ h3
structure Wrote (base : Nat) (W V : World) : Prop where
 bel : Below base W V
 kept : Keeps [5, 71] W V
theorem Wrote.refl (base : Nat) (W : World) : Wrote base W W := ⟨Below.refl _ _, Keeps.refl _ _⟩
theorem Wrote.trans {base : Nat} {W V U : World} (h : Wrote base W V) (h2 : Wrote base V U) : Wrote base W U := ⟨h.bel.trans h2.bel, h.kept.trans h2.kept⟩
theorem Wrote.below {base : Nat} {W V : World} (hb : Below W.heap.size W V) (h : base ≤ W.heap.size) : Wrote base W V := ⟨hb.mono h, Keeps.below hb⟩
theorem Wrote.size {base : Nat} {W V : World} (h : Wrote base W V) : W.heap.size ≤ V.heap.size := h.bel.size
theorem Wrote.block {base : Nat} {W V : World} (h : Wrote base W V) {g : Nat} {cs : Array Value} {T : Nat} {fr : Nat × Nat} (hc : W.heap[g]? = some (.cells cs T fr)) (hT : T ∉ [5, 71]) : V.heap[g]? = some (.cells cs T fr) :=
 h.kept g _ hc (fun cs T fr e => by cases e; exact hT)
theorem wr_lies : liesAt Tryz.prog Tryz.prog.depth 71 (3 / Tryz.prog.cellsOf 71) 0 69 1 = true := by kernel_rfl
set_option maxHeartbeats 1000000 in
set_option maxRecDepth 100000 in
theorem wrCheck_used (b : Nat) (w : World) (h0 : w.cell? ⟨b, 0, none⟩ = some (.pointer (some ⟨b, 0, none⟩))) :
 Calls Tryz.prog 137 #[.pointer (some ⟨b, 0, none⟩)] w fun e w' => e = .returned (.tuple #[]) ∧ w' = w := by
 obtain ⟨j, hj, _⟩ := Option.map_eq_some_iff.1 bld_size
 go_enter Tryz.func137, Tryz.ntmps137
 go_wp2
 rw [Lib.run_neq_ptr_same w _ Tryz.underlying67 hj]
 go_wp2
 go_end0
 exact ⟨rfl, rfl⟩
set_option maxHeartbeats 1000000 in
set_option maxRecDepth 100000 in
theorem wrCheck_fresh (b : Nat) (w : World) (h0 : w.cell? ⟨b, 0, none⟩ = some (.pointer none)) (hsh : w.shape? b = some (71, 3)) (hfz : w.frozen? ⟨b, 0, none⟩ = false) :
 Calls Tryz.prog 137 #[.pointer (some ⟨b, 0, none⟩)] w fun e w' => e = .returned (.tuple #[]) ∧ w' = w.setCell ⟨b, 0, none⟩ (.pointer (some ⟨b, 0, none⟩)) := by
 obtain ⟨j, hj, hjs⟩ := Option.map_eq_some_iff.1 bld_size
 go_enter Tryz.func137, Tryz.ntmps137
 go_wp2
 rw [Lib.run_to_unsafe w ⟨b, 0, none⟩ Tryz.underlying67 Tryz.underlying177 hj (by rw [hjs]; decide) hsh (Nat.zero_lt_succ 2)]
 simp only [Result.andThen]
 rw [Oper.upon_value]
 go_wp2
 rw [run_callFunc_extern Tryz.func154 (by kernel_rfl) (by kernel_rfl) (by kernel_rfl) (e := Extern.AbiNoEscape.same) (by kernel_rfl)]
 rw [Lib.run_noEscape]
 simp only [Result.andThen]
 rw [Oper.upon_value]
 go_wp2
 rw [Lib.run_from_unsafe w ⟨b, 0, none⟩ Tryz.underlying177 Tryz.underlying67 hj hsh wr_lies]
 simp only [Result.andThen]
 rw [Oper.upon_value]
 go_wp2
 go_end0
 exact ⟨rfl, rfl⟩
theorem grown_wrote {base b : Nat} {W V : World} {cs : Array Value} {fr : Nat × Nat} (hc : W.heap[b]? = some (.cells cs 71 fr)) (hB : base ≤ b) (hbs : base ≤ W.heap.size) (hg : W.grownBy V (some b)) : Wrote base W V :=
 ⟨(Below.refl _ _).grown hg hbs (fun r e => by cases e; exact hB), fun g o ho hn => by
  refine (hg.block g (Array.getElem?_eq_some_iff.1 ho).1 (fun e => ?_)).trans ho
  cases e
  rw [hc] at ho
  cases ho
  exact hn _ _ _ rfl (by simp)⟩
theorem row_wrote {base n : Nat} {W V : World} {v : Value} {xs : List Value} (ho : W.ownsRow base 5 1 v n xs) (hbs : base ≤ W.heap.size) (hg : W.grownBy V v.ownBlock) : Wrote base W V :=
 ⟨(Below.refl _ _).grown hg hbs (fun r e => (ho.lt r e).1), fun g o hgo hn => by
  refine (hg.block g (Array.getElem?_eq_some_iff.1 hgo).1 (fun e => ?_)).trans hgo
  rcases ho.2 with ⟨rfl, -⟩ | ⟨g1, c1, cur1, rfl, -, hc1, -⟩
  · cases e
  · have e : some g = some g1 := e
    cases e
    rw [hc1] at hgo
    cases hgo
    exact hn _ _ _ rfl (by simp)⟩
theorem wrCheck_any (base b mb : Nat) (l : List UInt8) (w : World) (h : WrAt w base b mb l) (hbs : base ≤ w.heap.size) :
 Calls Tryz.prog 137 #[.pointer (some ⟨b, 0, none⟩)] w fun e w' => e = .returned (.tuple #[]) ∧ (∃ v, w'.heap[b]? = some (.cells #[.pointer (some ⟨b, 0, none⟩), v, .map (some mb)] 71 (0, 0)) ∧ w'.ownsRow base 5 1 v l.length (byteVals l)) ∧ Wrote base w w' := by
 obtain ⟨hB, p, v, hp, hb, hown⟩ := h
 have h0 := cell_of_row w b 0 _ _ _ hb
 have f0 := frozen_of_row w b 0 _ _ hb
 simp only [List.getElem?_toArray, List.getElem?_cons_zero] at h0
 rcases hp with rfl | rfl
 · refine (wrCheck_fresh b w h0 (by simp [World.shape?, hb]) f0).mono ?_
   rintro e w' ⟨rfl, rfl⟩
   have hg := grown_setCell w b 0 (.pointer (some ⟨b, 0, none⟩))
   exact ⟨rfl, ⟨v, heap_setCell_same w b 0 _ _ _ hb, row_kept hown hg (fun r e => by obtain rfl : b = r := Option.some.inj e; exact block_other hown hb (by decide))⟩, grown_wrote hb hB hbs hg⟩
 · refine (wrCheck_used b w h0).mono ?_
   rintro e w' ⟨rfl, rfl⟩
   exact ⟨rfl, ⟨v, hb, hown⟩, Wrote.refl _ _⟩
set_option maxHeartbeats 2000000 in
set_option maxRecDepth 100000 in
theorem wrString (base b mb : Nat) (l : List UInt8) (s : ByteArray) (w : World) (h : WrAt w base b mb l) (hlen : l.length + s.size ≤ 1099511627776) (hBw : base ≤ w.heap.size) :
 Calls Tryz.prog 102 #[.pointer (some ⟨b, 0, none⟩), .string s] w fun e w' => e = .returned (.tuple #[.int .i64 s.size, .nilIface]) ∧ WrAt w' base b mb (l ++ s.data.toList) ∧ Wrote base w w' := by
 obtain ⟨i0, hi, hz0, hz1, hz2⟩ := info_parts bld_byte
 have hB := h.1
 have hbl : (byteVals l).length = l.length := by simp [byteVals]
 go_enter Tryz.func102, Tryz.ntmps102
 go_wp2_with fail
 refine (wrCheck_any base b mb l _ h hBw).mono ?_
 rintro e w1 ⟨rfl, ⟨v, hbk, hown⟩, hw1⟩
 have HO1 := Lib.hid hw1; clear hw1
 have c0 : w1.cell? ⟨b, 0, none⟩ = some (.pointer (some ⟨b, 0, none⟩)) := by rw [Lib.cell_of_heap hbk]; rfl
 have c1 : w1.cell? ⟨b, 1, none⟩ = some v := by rw [Lib.cell_of_heap hbk]; rfl
 go_wp2_with (at_builtin; refine Lib.wpList_append_own_string _ rfl _ _ 63 9 rfl base 5 i0 Tryz.underlying63 Tryz.underlying9 hi hz0 hz1 hz2 _ _ _ rfl hown s rfl ?c3 ?c4 ?c5 ?_)
 case c3 => unfold maxLen; omega
 case c4 => omega
 case c5 => have := HO1.out.size; omega
 intro v' w2 hown' hgrow _
 have hb2 : w2.heap[b]? = some (.cells #[.pointer (some ⟨b, 0, none⟩), v, .map (some mb)] 71 (0, 0)) :=
  (hgrow.block b (Array.getElem?_eq_some_iff.1 hbk).1 (fun e => block_other hown hbk (by decide) e.symm)).trans hbk
 have d0 : w2.cell? ⟨b, 0, none⟩ = some (.pointer (some ⟨b, 0, none⟩)) := by rw [Lib.cell_of_heap hb2]; rfl
 have d1 : w2.cell? ⟨b, 1, none⟩ = some v := by rw [Lib.cell_of_heap hb2]; rfl
 have f1 : w2.frozen? ⟨b, 1, none⟩ = false := Lib.frozen_of_heap hb2 1
 obtain ⟨ao, n', cap, rfl⟩ : ∃ ao n' cap, v' = .slice ao n' cap := by
  rcases hown'.2 with ⟨hv, _⟩ | ⟨g, cap, cur, hv, _⟩
  · exact ⟨_, _, _, hv⟩
  · exact ⟨_, _, _, hv⟩
 go_wp2
 go_ret2
 have hcat : byteVals (l ++ s.data.toList) = byteVals l ++ Lib.strCells s := by rw [byteVals_append]; rfl
 have hg3 := grown_setCell w2 b 1 (.slice ao n' cap)
 have hw2 := row_wrote hown (by have := HO1.out.size; omega) hgrow
 refine ⟨rfl, ⟨hB, _, _, Or.inr rfl, heap_setCell_same w2 b 1 _ _ _ hb2, ?_⟩, HO1.out.trans (hw2.trans (grown_wrote hb2 hB (by have := HO1.out.size; have := hw2.size; omega) hg3))⟩
 rw [hcat]
 have := row_kept hown' hg3 (fun r e => by obtain rfl : b = r := Option.some.inj e; exact block_other hown' hb2 (by decide))
 simpa using this
set_option maxRecDepth 100000 in
set_option maxHeartbeats 2000000 in
theorem wText_any (base b mb : Nat) (l : List UInt8) (s : ByteArray) (w : World) (h : WrAt w base b mb l) (hlen : l.length + s.size ≤ 1099511627776) (hBw : base ≤ w.heap.size) :
 Calls Tryz.prog 61 #[.pointer (some ⟨b, 0, none⟩), .string s] w fun e w' => e = .returned (.tuple #[]) ∧ WrAt w' base b mb (l ++ s.data.toList) ∧ Wrote base w w' := by
 have HS := Lib.hid (wrString base b mb l s w h hlen hBw)
 clear h
 go_enter Tryz.func61, Tryz.ntmps61
 go_wp2_with fail
 refine HS.out.mono ?_; rintro e w1 ⟨rfl, h1, h2⟩
 have H1 := Lib.hid h1; have H2 := Lib.hid h2
 clear h1 h2
 go_wp2_with fail
 go_end0
 exact ⟨rfl, H1.out, H2.out⟩
def smalls : List Nat → ByteArray
 | [] => ByteArray.empty
 | n :: l => Num.smallB n ++ smalls l
theorem smalls_snoc (n : Nat) : ∀ l, smalls (l ++ [n]) = smalls l ++ Num.smallB n
 | [] => by show Num.smallB n ++ ByteArray.empty = ByteArray.empty ++ Num.smallB n; rw [ByteArray.append_empty, ByteArray.empty_append]
 | m :: l => by show Num.smallB m ++ smalls (l ++ [n]) = (Num.smallB m ++ smalls l) ++ _; rw [smalls_snoc n l, ByteArray.append_assoc]
theorem smalls_size : ∀ l : List Nat, (smalls l).size ≤ 10 * l.length
 | [] => Nat.le_refl _
 | n :: l => by
  have := smalls_size l
  have h := Fr.small_le n
  show (Num.smallB n ++ smalls l).size ≤ _
  rw [ByteArray.size_append, List.length_cons]; omega
def nx (l : List Nat) (i : Nat) (_ : Nat) : Value := .int .u64 ((l.getD i 0 : Nat) : Int)
set_option maxRecDepth 100000 in
set_option maxHeartbeats 2000000 in
theorem wSmall_any (base b mb : Nat) (l : List UInt8) (A : Option Addr) (c : Nat) (ns : List Nat) (w : World) (h : WrAt w base b mb l) (hlen : l.length ≤ 1000000) (hn : ns.length ≤ 1000) (hns : ∀ n ∈ ns, n < 18446744073709551616) (hBw : base ≤ w.heap.size) (hA : Row 1 (nx ns) w A ns.length) (hAB : ∀ ad, A = some ad → ∃ cs fr, w.heap[ad.block]? = some (.cells cs 103 fr)) :
 Calls Tryz.prog 64 #[.pointer (some ⟨b, 0, none⟩), .slice A ns.length c] w fun e w' => e = .returned (.tuple #[]) ∧ WrAt w' base b mb (l ++ (smalls ns).data.toList) ∧ Wrote base w w' := by
 have HA := Lib.hid hA; have HAB := Lib.hid hAB; have HNS := Lib.hid hns; have HW := Lib.hid h
 clear hA hAB hns h
 go_enter Tryz.func64, Tryz.ntmps64
 go_wp2_with fail
 go_loopw [8] (fun i wr => ∃ k : Nat, k ≤ ns.length ∧ i = .int .i64 k ∧ WrAt wr base b mb (l ++ (smalls (ns.take k)).data.toList) ∧ Wrote base w wr) (fun i _ => ns.length - (intOf i).toNat)
 case atStart => exact ⟨0, by omega, rfl, by simpa [smalls] using HW.out, Wrote.refl _ _⟩
 case round =>
  obtain ⟨k, hk, rfl, hwr, hwt⟩ := hrel
  have HWR := Lib.hid hwr; have HWT := Lib.hid hwt
  clear hwr hwt
  have i0 : (0 : Int) ≤ (k : Int) := by omega
  by_cases hlt : k < ns.length
  · have i1 : (k : Int) < (ns.length : Int) := by omega
    have dd1 : decide ((k : Int) < (ns.length : Int)) = true := decide_eq_true i1
    obtain ⟨ad, e, hadl, hc⟩ := HA.out (by omega)
    subst e
    have x0 : wr.cell? (ad.add k) = some (.int .u64 ((ns.getD k 0 : Nat) : Int)) := by
     obtain ⟨cs, fr, hcs⟩ := HAB.out ad rfl
     have h1 := hc k hlt 0 (by decide)
     rw [Nat.mul_one, Nat.add_zero] at h1
     have h2 := HWT.out.block hcs (by decide)
     have h3 : w.cell? (ad.add k) = some (.int .u64 ((ns.getD k 0 : Nat) : Int)) := h1
     rw [← h3]
     have e1 : (ad.add k).block = ad.block := addr_block ad k
     unfold World.cell?
     rw [e1, h2, hcs]
    have hz : (smalls (ns.take k)).size ≤ 10 * k := by
     have := smalls_size (ns.take k)
     rw [List.length_take, Nat.min_eq_left (by omega)] at this
     exact this
    have hlt2 : ns.getD k 0 < 18446744073709551616 := HNS.out _ (by rw [List.getD_eq_getElem?_getD, List.getElem?_eq_getElem hlt]; exact List.getElem_mem hlt)
    have htk : smalls (ns.take (k + 1)) = smalls (ns.take k) ++ Num.smallB (ns.getD k 0) := by
     rw [List.take_add_one, List.getElem?_eq_getElem hlt, List.getD_eq_getElem?_getD, List.getElem?_eq_getElem hlt]
     exact smalls_snoc _ _
    have HTK := Lib.hid htk
    have HSM := Lib.hid (fun U => Small_any (ns.getD k 0) (Lib.hid hlt2) U)
    have hsz := Fr.small_le (ns.getD k 0)
    generalize ns.getD k 0 = x at *
    clear hc hadl hlt2 htk
    go_wp2_with fail
    refine (HSM.out _).mono ?_; rintro e w1 ⟨rfl, hb1⟩
    have hll : (l ++ (smalls (ns.take k)).data.toList).length ≤ 1100000 := by rw [List.length_append, Array.length_toList]; show l.length + (smalls (ns.take k)).size ≤ _; omega
    have hbw := HWT.out.size
    have HT := Lib.hid (wText_any base b mb _ (Num.smallB x) w1 (HWR.out.later hb1) (by omega) (by have := hb1.size; omega))
    have HB1 := Lib.hid (Wrote.below (base := base) hb1 (by omega))
    clear hb1 hll hsz hz HSM x0
    go_wp2_with fail
    refine HT.out.mono ?_; rintro e w2 ⟨rfl, h2, h3⟩
    have H2 := Lib.hid h2; have H3 := Lib.hid (HWT.out.trans (HB1.out.trans h3))
    clear h2 h3 HT
    go_wp2_with fail
    go_roundw
    case rel => exact ⟨k + 1, by omega, by go_num, by rw [HTK.out, Crc.data_append, ← List.append_assoc]; exact H2.out, H3.out⟩
    case measure => simp [intOf]; omega
  · obtain rfl : k = ns.length := by omega
    have dd1 : decide ((ns.length : Int) < (ns.length : Int)) = false := decide_eq_false (by omega)
    go_wp2_with fail
    go_end0
    have h1 := HWR.out
    rw [List.take_length] at h1
    exact ⟨rfl, h1, HWT.out⟩
end Go.Proofs.YtliobahnekohmaaGreat
/-
  The reader of entries: a cursor and more in one block; atMost and symbol.
-/
namespace Go.Proofs.YtliobahnekohmaaGreat
open Go.RowKit
structure Rdr (w U : World) (rb : Nat) (c : Ix.Cu) (S : List ByteArray) (sv : Value) (la en : Int) : Prop where
 cur : CurAt (98, [sv, .int .i64 la, .int .i64 en]) rb c.s c.bad U
 own : U.ownsRow w.heap.size 9 1 sv S.length (S.map .string)
 bel : Below w.heap.size w U
 lo : w.heap.size ≤ rb
 room : c.s.size ≤ maxLen
section
variable {w U V : World} {rb : Nat} {c d : Ix.Cu} {S : List ByteArray} {sv : Value} {la en : Int}
theorem Rdr.lt (h : Rdr w U rb c S sv la en) : rb < U.heap.size := (Array.getElem?_eq_some_iff.1 h.cur).1
theorem Rdr.later (h : Rdr w U rb c S sv la en) (hb : Below U.heap.size U V) : Rdr w V rb c S sv la en :=
 ⟨heap_keep h.cur hb, row_far h.own hb, below_step h.bel hb, h.lo, h.room⟩
theorem Rdr.apart (h : Rdr w U rb c S sv la en) {r : Nat} (hr : sv.ownBlock = some r) : r ≠ rb := by
 rintro rfl
 rcases h.own.2 with ⟨e, -⟩ | ⟨g, cap, cur, e, -, hg, -⟩
 · rw [e] at hr; cases hr
 · rw [e] at hr
   cases hr
   have hc := h.cur
   unfold CurAt at hc
   rw [hg] at hc
   cases hc
theorem Rdr.step (h : Rdr w U rb c S sv la en) (hc : CurAt (98, [sv, .int .i64 la, .int .i64 en]) rb d.s d.bad V) (hg : U.grownBy V (some rb)) (hz : d.s.size ≤ c.s.size) : Rdr w V rb d S sv la en :=
 ⟨hc, row_kept h.own hg (fun r e hs => by cases e; exact h.apart hs rfl), h.bel.grown hg h.bel.size (fun r e => by cases e; exact h.lo), h.lo, Nat.le_trans hz h.room⟩
theorem Rdr.cells (h : Rdr w U rb c S sv la en) : U.cell? ⟨rb, 0, none⟩ = some (.string c.s) ∧ U.cell? ⟨rb, 1, none⟩ = some (.bool c.bad) ∧ U.cell? ⟨rb, 2, none⟩ = some sv ∧ U.cell? ⟨rb, 3, none⟩ = some (.int .i64 la) ∧ U.cell? ⟨rb, 4, none⟩ = some (.int .i64 en) := by
 have hc := h.cur
 unfold CurAt at hc
 exact ⟨(cell_of_row _ _ 0 _ _ _ hc).trans (by simp), (cell_of_row _ _ 1 _ _ _ hc).trans (by simp), (cell_of_row _ _ 2 _ _ _ hc).trans (by simp), (cell_of_row _ _ 3 _ _ _ hc).trans (by simp), (cell_of_row _ _ 4 _ _ _ hc).trans (by simp)⟩
theorem Rdr.free (h : Rdr w U rb c S sv la en) (i : Nat) : U.frozen? ⟨rb, i, none⟩ = false := frozen_of_row _ _ i _ _ h.cur
theorem rsmall (h : Rdr w U rb c S sv la en) : Calls Tryz.prog 92 #[.pointer (some ⟨rb, 0, none⟩)] U fun e V => e = .returned (.int .u64 ((c.small.1 : Nat) : Int)) ∧ Rdr w V rb c.small.2 S sv la en ∧ U.grownBy V (some rb) :=
 (curSmall rb c.s h.room c.bad U h.cur).mono fun _ _ ⟨h1, h2, h3⟩ => ⟨h1, h.step h2 h3 (Ix.small_size c), h3⟩
theorem rwide (h : Rdr w U rb c S sv la en) : Calls Tryz.prog 91 #[.pointer (some ⟨rb, 0, none⟩)] U fun e V => e = .returned (.int .u64 ((c.wide.1 : Nat) : Int)) ∧ Rdr w V rb c.wide.2 S sv la en ∧ U.grownBy V (some rb) :=
 (curWide rb c.s h.room c.bad U h.cur).mono fun _ _ ⟨h1, h2, h3⟩ => ⟨h1, h.step h2 h3 (Ix.wide_size c), h3⟩
theorem rtext (h : Rdr w U rb c S sv la en) (m : Int) (hm : -9223372036854775808 ≤ m ∧ m ≤ 9223372036854775807) : Calls Tryz.prog 131 #[.pointer (some ⟨rb, 0, none⟩), .int .i64 m] U fun e V => e = .returned (.string (c.text m).1) ∧ Rdr w V rb (c.text m).2 S sv la en ∧ U.grownBy V (some rb) :=
 (curText rb c.s h.room c.bad m (Lib.hid hm) U h.cur).mono fun _ _ ⟨h1, h2, h3⟩ => ⟨h1, h.step h2 h3 (Ix.text_size c m), h3⟩
theorem rtake (h : Rdr w U rb c S sv la en) (m : Int) : Calls Tryz.prog 127 #[.pointer (some ⟨rb, 0, none⟩), .int .i64 m] U fun e V => e = .returned (.string (c.take m).1) ∧ Rdr w V rb (c.take m).2 S sv la en ∧ U.grownBy V (some rb) :=
 (curTake rb c.s h.room c.bad m U h.cur).mono fun _ _ ⟨h1, h2, h3⟩ => ⟨h1, h.step h2 h3 (Ix.take_size c m), h3⟩
theorem rfixed (h : Rdr w U rb c S sv la en) : Calls Tryz.prog 128 #[.pointer (some ⟨rb, 0, none⟩), .int .i64 12] U fun e V => e = .returned (.string (c.fixed 12).1) ∧ Rdr w V rb (c.fixed 12).2 S sv la en ∧ U.grownBy V (some rb) :=
 (curFixed rb c.s h.room c.bad 12 U h.cur).mono fun _ _ ⟨h1, h2, h3⟩ => ⟨h1, h.step (d := (c.fixed 12).2) h2 h3 (Ix.fixed_size c 12), h3⟩
theorem Rdr.putBad (h : Rdr w U rb c S sv la en) : Rdr w (U.setCell ⟨rb, 1, none⟩ (.bool true)) rb ⟨c.s, true⟩ S sv la en ∧ U.grownBy (U.setCell ⟨rb, 1, none⟩ (.bool true)) (some rb) :=
 ⟨h.step (d := ⟨c.s, true⟩) (h.cur.putBad true) (grown_setCell U rb 1 _) (Nat.le_refl _), grown_setCell U rb 1 _⟩
theorem u64le {n : Nat} (h : n ≤ 1000000) : IntKind.u64.wrap (n : Int) = (n : Int) := by simp [IntKind.wrap, IntKind.bits, IntKind.signed]; omega
end
set_option maxRecDepth 100000 in
theorem ratMost {w U : World} {rb : Nat} {c : Ix.Cu} {S : List ByteArray} {sv : Value} {la en : Int} (h : Rdr w U rb c S sv la en) (x m : Nat) (hm : m ≤ 1000000) :
 Calls Tryz.prog 97 #[.pointer (some ⟨rb, 0, none⟩), .int .u64 (x : Int), .int .i64 (m : Int)] U fun e V => e = .returned (.int .i64 (((Ix.Cu.atMost m (x, c)).1 : Nat) : Int)) ∧ Rdr w V rb (Ix.Cu.atMost m (x, c)).2 S sv la en ∧ U.grownBy V (some rb) := by
 obtain ⟨c0, c1, -, -, -⟩ := h.cells
 have f1 := h.free 1
 have hu := u64le hm
 have HP := Lib.hid h.putBad; have H := Lib.hid h
 have hA : Ix.Cu.atMost m (x, c) = if c.bad = true ∨ m < x then (0, ⟨c.s, true⟩) else (x, c) := rfl
 obtain ⟨s, bad⟩ := c
 simp only at c0 c1 hA HP
 clear h
 cases bad with
 | true =>
  rw [if_pos (Or.inl rfl)] at hA
  rw [hA]
  clear hA
  go_enter Tryz.func97, Tryz.ntmps97
  go_wp2_with fail
  go_ret
  exact ⟨rfl, HP.out⟩
 | false =>
  by_cases hx : m < x
  · rw [if_pos (Or.inr hx)] at hA
    rw [hA]
    have d1 : decide ((m : Int) < (x : Int)) = true := decide_eq_true (by omega)
    clear hA
    go_enter Tryz.func97, Tryz.ntmps97
    go_wp2_with fail
    go_ret
    exact ⟨rfl, HP.out⟩
  · rw [if_neg (by rintro (h | h); (· cases h); exact hx h)] at hA
    rw [hA]
    have d1 : decide ((m : Int) < (x : Int)) = false := decide_eq_false (by omega)
    have w1 : IntKind.i64.wrap (x : Int) = (x : Int) := by rw [IntKind.wrap_i64]; omega
    clear hA
    go_enter Tryz.func97, Tryz.ntmps97
    go_wp2_with fail
    go_ret
    exact ⟨rfl, H.out, grown_refl _ _⟩
theorem Rdr.slice {w U : World} {rb : Nat} {c : Ix.Cu} {S : List ByteArray} {sv : Value} {la en : Int} (h : Rdr w U rb c S sv la en) : ∃ A k, sv = .slice A S.length k ∧ ∀ i, i < S.length → ∃ g, A = some ⟨g, 0, none⟩ ∧ U.cell? ⟨g, i, none⟩ = some (.string (S.getD i ByteArray.empty)) := by
 have hown := h.own
 rcases hown.2 with ⟨e, h0⟩ | ⟨g, cap, cur, e, -, hg, -⟩
 · exact ⟨none, 0, by rw [e, h0], fun i hi => by omega⟩
 · refine ⟨some ⟨g, 0, none⟩, cap, e, fun i hi => ⟨g, rfl, ?_⟩⟩
   rw [e] at hown
   rw [World.ownsRow.cellAt hown i (by omega)]
   simp [List.getD, hi]
set_option maxRecDepth 100000 in
theorem rsymbol {w U : World} {rb : Nat} {c : Ix.Cu} {S : List ByteArray} {sv : Value} {la en : Int} (h : Rdr w U rb c S sv la en) (hS : S.length ≤ 1000) :
 Calls Tryz.prog 149 #[.pointer (some ⟨rb, 0, none⟩)] U fun e V => e = .returned (.string (Ix.rdSym S c).1) ∧ Rdr w V rb (Ix.rdSym S c).2 S sv la en ∧ U.grownBy V (some rb) := by
 have HSM := Lib.hid (rsmall h)
 have hR : Ix.rdSym S c = if c.small.2.bad = true ∨ S.length ≤ c.small.1 then (ByteArray.empty, ⟨c.small.2.s, true⟩) else (S.getD c.small.1 ByteArray.empty, c.small.2) := rfl
 have hu := u64le (n := S.length) (by omega)
 obtain ⟨A, k, hsv, -⟩ := h.slice
 subst hsv
 generalize Ix.rdSym S c = r at *
 generalize c.small = x at *
 obtain ⟨at_, c1⟩ := x
 obtain ⟨s, bad⟩ := c1
 simp only at hR HSM
 clear h
 by_cases hx : S.length ≤ at_
 · rw [if_pos (Or.inr hx)] at hR
   subst hR
   have d1 : decide ((S.length : Int) ≤ (at_ : Int)) = true := decide_eq_true (by omega)
   go_enter Tryz.func149, Tryz.ntmps149
   go_wp2_with fail
   refine HSM.out.mono ?_; rintro e w1 ⟨rfl, h1, h2⟩
   obtain ⟨c0, c1, c2, -, -⟩ := h1.cells
   have f1 := h1.free 1
   have HP := Lib.hid h1.putBad; have H2 := Lib.hid h2
   obtain ⟨e0, e1, -, -, -⟩ := h1.putBad.1.cells
   clear h1 h2 HSM
   go_wp2_with fail
   go_ret
   exact ⟨rfl, HP.out.1, grown_trans H2.out HP.out.2⟩
 · have d1 : decide ((S.length : Int) ≤ (at_ : Int)) = false := decide_eq_false (by omega)
   have i0 : (0 : Int) ≤ (at_ : Int) := by omega
   have i1 : (at_ : Int) < (S.length : Int) := by omega
   have i2 : at_ < S.length := by omega
   go_enter Tryz.func149, Tryz.ntmps149
   go_wp2_with fail
   refine HSM.out.mono ?_; rintro e w1 ⟨rfl, h1, h2⟩
   obtain ⟨c0, c1, c2, -, -⟩ := h1.cells
   have H1 := Lib.hid h1; have H2 := Lib.hid h2
   clear h2 HSM
   cases bad with
   | true =>
    rw [if_pos (Or.inl rfl)] at hR
    subst hR
    clear h1
    go_wp2_with fail
    go_ret
    exact ⟨rfl, H1.out, H2.out⟩
   | false =>
    rw [if_neg (by rintro (h | h); (· cases h); exact hx h)] at hR
    have HRR := Lib.hid hR
    clear hR
    obtain ⟨A2, k2, e2, hc⟩ := h1.slice
    cases e2
    obtain ⟨g, rfl, hcell⟩ := hc at_ i2
    clear h1 hc
    generalize S.getD at_ ByteArray.empty = sy at *
    go_wp2_with fail
    go_ret
    rw [HRR.out]
    exact ⟨rfl, H1.out, H2.out⟩
end Go.Proofs.YtliobahnekohmaaGreat
