import Derived.Test.YtliobahnekohmaaGreatIxU
import Derived.Test.YtliobahnekohmaaGreatBld
import Derived.Test.YtliobahnekohmaaGreatIxC
import Derived.Test.YtliobahnekohmaaGreatRefB
/-
  The writer's bytes as a text; entries in generation 3.
-/
namespace Go.Proofs.YtliobahnekohmaaGreat
open Go.RowKit Go.Shelf
set_option maxHeartbeats 1000000 in
set_option maxRecDepth 100000 in
theorem wString_list (base b mb : Nat) (l : List UInt8) (w : World) (h : WrAt w base b mb l) (h0 : l ≠ []) :
 Calls Tryz.prog 33 #[.pointer (some ⟨b, 0, none⟩)] w fun e w' => e = .returned (.string ⟨l.toArray⟩) ∧ Below base w w' := by
 obtain ⟨_, p, v, _, hbk, hown⟩ := h
 have hl0 : l.length ≠ 0 := by simpa using h0
 obtain ⟨g, cap, cur, rfl, hbg, hg, hnc, hcm, hcs, htake⟩ : ∃ g cap cur, v = .slice (some ⟨g, 0, none⟩) l.length cap ∧ base ≤ g ∧ w.heap[g]? = some (.cells cur 5 (0, 0)) ∧ l.length ≤ cap ∧ cap ≤ maxLen ∧ cur.size = cap * 1 ∧ cur.toList.take (l.length * 1) = byteVals l := by
  rcases hown.2 with ⟨_, hz⟩ | ⟨g, cap, cur, hv, r⟩
  · exact absurd hz hl0
  · exact ⟨g, cap, cur, hv, r⟩
 have c1 : w.drew.cell? ⟨b, 1, none⟩ = some (.slice (some ⟨g, 0, none⟩) l.length cap) := by
  have : w.drew.heap[b]? = some (.cells #[p, .slice (some ⟨g, 0, none⟩) l.length cap, .map (some mb)] 71 (0, 0)) := hbk
  rw [Lib.cell_of_heap this]; rfl
 have hSD : (Builtin.unsafeSliceData_ #[63] 109 #[.slice (some ⟨g, 0, none⟩) l.length cap]).run Tryz.prog w.drew = .ok (.pointer (some ⟨g, 0, none⟩)) w.drew :=
  Lib.run_unsafeSliceData_row _ _ _ _ _ _ (by omega)
 have hUS : (Builtin.unsafeString_ #[109, 3] 9 #[.pointer (some ⟨g, 0, none⟩), .int .i64 l.length]).run Tryz.prog w.drew = .ok (.string ⟨l.toArray⟩) (w.drew.freeze ⟨g, 0, none⟩ l.length) := by
  refine Lib.run_unsafeString_row w.drew 109 3 9 5 Tryz.underlying109 (by kernel_rfl) g cur.size (by have hg' : w.drew.heap[g]? = some (.cells cur 5 (0, 0)) := hg; simp [World.shape?, hg']) l h0 (by omega) (by unfold maxLen at hcm; omega) ?_
  intro j x hx
  have := hown.cells (g := g) rfl j (.int .u8 x.toNat) (by simp [byteVals, hx])
  exact this
 clear hown
 have mixed : Tryz.prog.follows .mixedOrders = true := by kernel_rfl
 go_enter Tryz.func33, Tryz.ntmps33
 go_wp2
 go_region_o
 all_goals (go_wp2; go_ret; exact ⟨rfl, Lib.below_freeze (Below.drew (Below.refl base w)) (p := ⟨g, 0, none⟩) hbg _⟩)
theorem wString_any (base b mb : Nat) (T : ByteArray) (w : World) (h : Wr w base b mb T) (h0 : 0 < T.size) :
 Calls Tryz.prog 33 #[.pointer (some ⟨b, 0, none⟩)] w fun e w' => e = .returned (.string T) ∧ Below base w w' := by
 refine (wString_list base b mb T.data.toList w h (fun e => ?_)).mono ?_
 · have : T.data.toList.length = 0 := by rw [e]; rfl
   rw [Array.length_toList] at this
   have e2 : T.size = T.data.size := rfl
   omega
 · rintro e w' ⟨rfl, hb⟩
   exact ⟨rfl, hb⟩
theorem third_any (w0 : World) (A : Option Addr) (n c : Nat) (q : Nat → EAt) (b mb : Nat) (w : World) (h : EGood w0 A n q) (hnd : ∀ i, i < n → (q i).e.l.Nodup) (hw0 : Below w0.heap.size w0 w) (hw : Wr w w0.heap.size b mb ByteArray.empty) (hm : Places w mb (Ix.syms (entL q n)) 0) (hlo : w0.heap.size ≤ mb) :
 Calls Tryz.prog 32 #[.pointer (some ⟨b, 0, none⟩), .slice A n c] w fun e w' => e = .returned (.tuple #[]) ∧ Wr w' w0.heap.size b mb (Num.smallB (Ix.syms (entL q n)).length ++ Ix.symsB true ByteArray.empty (Ix.syms (entL q n)) ++ (Num.smallB n ++ Ix.ents3 (Ix.syms (entL q n)) 0 0 (entL q n) ++ Ix.postsB (entL q n) (Ix.labAll (entL q n)))) ∧ Below w0.heap.size w w' :=
 third_any0 w0 A n c q b mb w h hw0 hw hm hlo _ fun U T hU hT hz => wPostings_any w0 A n c q b mb U T h hnd hU hT hz
end Go.Proofs.YtliobahnekohmaaGreat
/-
  Put: the walk.
-/
namespace Go.Proofs.YtliobahnekohmaaGreat
open Go.RowKit
namespace Ix
theorem right_nodup {l : List Lab} (h : La.rightL l = true) : l.Nodup := by
 obtain ⟨-, -, h3⟩ := La.right_parts h
 have hat : ∀ i (hi : i < l.length), La.at_ l i = l[i] := fun i hi => by unfold La.at_; simp [List.getD, hi]
 have hlt : ∀ d i, i + d + 1 < l.length → La.less (La.at_ l i).1 (La.at_ l (i + d + 1)).1 = true := by
  intro d
  induction d with
  | zero =>
   intro i hi
   obtain ⟨-, -, h4⟩ := h3 (i + 1) (by omega)
   rcases h4 with h4 | h4
   · omega
   · exact h4
  | succ d ih =>
   intro i hi
   have h1 := ih i (by omega)
   obtain ⟨-, -, h4⟩ := h3 (i + (d + 1) + 1) (by omega)
   rcases h4 with h4 | h4
   · omega
   · exact La.less_trans h1 h4
 refine List.pairwise_iff_getElem.2 fun i j hi hj hij e => ?_
 have := hlt (j - i - 1) i (by omega)
 rw [show i + (j - i - 1) + 1 = j by omega, hat i hi, hat j hj, e, La.less_irrefl] at this
 cases this
end Ix
theorem egood {w : World} {A : Option Addr} {n : Nat} {q : Nat → EAt} {g : Int} (h : EntsIn w A n q) (hv : Ix.valid (entL q n) g = 0) : EGood w A n q ∧ (1 ≤ g ∧ g ≤ 3) ∧ ∀ i, i < n → (q i).e.l.Nodup := by
 have hg := Ix.good hv
 have hm : ∀ i, i < n → (q i).e ∈ entL q n := fun i hi => List.mem_map.2 ⟨i, List.mem_range.2 hi, rfl⟩
 have hr : ∀ i, i < n → (q i).e.l.length ≤ 6 ∧ ∀ x ∈ (q i).e.l, x.1.size ≤ 48 ∧ x.2.size ≤ 48 := fun i hi => Ix.right_le (hg.right _ (hm i hi))
 refine ⟨⟨h, by have := hg.few; rw [entL_length] at this; exact this, fun i hi => (hr i hi).1, fun i hi j hj => ?_, fun i hi => hg.last _ (hm i hi), fun i hi => hg.off _ (hm i hi), fun i hi => hg.len _ (hm i hi)⟩, hg.gen, fun i hi => Ix.right_nodup (hg.right _ (hm i hi))⟩
 refine (hr i hi).2 _ ?_
 have e : La.at_ (q i).e.l j = (q i).e.l[j] := by unfold La.at_; simp [List.getD, hj]
 rw [e]; exact List.getElem_mem hj
theorem small_pos (n : Nat) : 0 < (Num.smallB n).size := by
 rw [Lib.size_eq]
 exact Num.small_pos n
theorem body_size {w : World} {A : Option Addr} {n : Nat} {q : Nat → EAt} {g : Int} (h : EGood w A n q) : 0 < (Ix.body g (entL q n)).size ∧ (Ix.body g (entL q n)).size ≤ 200000 := by
 have hn := h.few
 have hg := sgood h
 have h0 := hg.few
 have hl := entL_length q n
 unfold Ix.body
 split
 · have h1 := Ix.ents1_size q h.labs n (Nat.le_refl n)
   have h2 := Ix.wide_len (entL q n).length
   rw [ByteArray.size_append]; omega
 · split
   · have h1 := Ix.ents2_size (Ix.syms (entL q n)) q h.labs n (Nat.le_refl n)
     have h2 := Ix.syms2_size (Ix.syms (entL q n)) ByteArray.empty hg.short
     have h3 := Fr.small_le (Ix.syms (entL q n)).length
     have h4 := Fr.small_le (entL q n).length
     have h5 := small_pos (entL q n).length
     simp only [ByteArray.size_append]; omega
   · have h1 := Ix.ents3_bound (Ix.syms (entL q n)) q h.labs n (Nat.le_refl n)
     have h2 := Ix.syms3_size (Ix.syms (entL q n)) ByteArray.empty hg.short
     have h3 := Fr.small_le (Ix.syms (entL q n)).length
     have h4 := Fr.small_le (entL q n).length
     have h5 := small_pos (entL q n).length
     have h6 := Ix.postsB_size (entL q n) (by omega) (Ix.labAll (entL q n))
     have h7 := labAll_length (entL q n)
     have h8 := Ix.firsts_length ((entL q n).flatMap (·.l))
     have h9 := seen_bound q h.labs n (Nat.le_refl n)
     simp only [ByteArray.size_append]; omega
set_option maxRecDepth 100000 in
set_option maxHeartbeats 4000000 in
theorem Put_any (A : Option Addr) (n c : Nat) (q : Nat → EAt) (g : Int) (w : World) (h : EntsIn w A n q) :
 Calls Tryz.prog 11 #[.slice A n c, .int .i64 g] w fun e w' => e = .returned (.tuple #[.string (Ix.put g (entL q n)).1, .int .i64 (Ix.put g (entL q n)).2]) ∧ Below w.heap.size w w' := by
 have HV := Lib.hid (Valid_any A n c q g w h)
 have HA := Lib.hid h
 by_cases hv : Ix.valid (entL q n) g = 0
 · have hput := Ix.put_ok hv
   rw [hv] at HV
   have HPUT := Lib.hid hput
   have HEV := Lib.hid hv
   clear h hput hv
   go_enter Tryz.func11, Tryz.ntmps11
   go_wp2_with fail
   refine HV.out.mono ?_; rintro e w1 ⟨rfl, hb1⟩
   obtain ⟨hgood, hg3, hnd⟩ := egood (HA.out.later hb1) HEV.out
   have HG := Lib.hid hgood; have HND := Lib.hid hnd; have HB1 := Lib.hid hb1
   have hmm := run_makeMap_none (P := Tryz.prog) (t := 66) w1
   clear hb1 hgood hnd HV
   obtain ⟨w2, hw2⟩ : ∃ w2, w2 = w1.alloc (.map #[] 0) := ⟨_, rfl⟩
   obtain ⟨w3, hw3⟩ : ∃ w3, w3 = w2.alloc (.cells #[.pointer none, .slice none 0 0, .map (some w1.heap.size)] 71) := ⟨_, rfl⟩
   have hz2 : w2.heap.size = w1.heap.size + 1 := by rw [hw2, World.size_alloc]
   have hb2 : Below w1.heap.size w1 w2 := by rw [hw2]; exact (Below.refl _ _).alloc (Nat.le_refl _) _
   have hb3 : Below w2.heap.size w2 w3 := by rw [hw3]; exact (Below.refl _ _).alloc (Nat.le_refl _) _
   have hx3 : w3.heap[w2.heap.size]? = some (.cells #[.pointer none, .slice none 0 0, .map (some w1.heap.size)] 71 (0, 0)) := by rw [hw3]; exact heap_alloc_new w2 _
   have hmap : Places w3 w1.heap.size (Ix.syms (entL q n)) 0 := by
    have hm := MapIs.made w1 Tryz.prog 9
    rw [← hw2] at hm
    have hm3 := MapIs.same hm (hb3.block _ (by omega))
    refine MapIs.congr hm3 fun key l _ => ?_
    unfold placeF
    split
    · rw [if_neg (Nat.not_lt_zero _)]
    · rfl
   rw [hz2] at hx3
   have hwr : Wr w3 w1.heap.size (w1.heap.size + 1) w1.heap.size ByteArray.empty := ⟨Nat.le_succ _, .pointer none, .slice none 0 0, Or.inl rfl, hx3, World.ownsRow_nil _ _ _ _⟩
   have HMAP := Lib.hid hmap; have HWR := Lib.hid hwr
   have HB3 := Lib.hid (below_step hb2 hb3)
   have hnl := entL_length q n
   have hbz := body_size (g := g) HG.out
   have HLO : Hid (w1.heap.size ≤ w1.heap.size) := Lib.hid (Nat.le_refl _)
   have HF1 := Lib.hid (fun (_ : g = 1) => first_any w1 A n c q (w1.heap.size + 1) w1.heap.size w3 HG.out HB3.out HWR.out)
   have HF2 := Lib.hid (fun (_ : g = 2) => second_any w1 A n c q (w1.heap.size + 1) w1.heap.size w3 HG.out HB3.out HWR.out HMAP.out HLO.out)
   have HF3 := Lib.hid (fun (_ : g = 3) => third_any w1 A n c q (w1.heap.size + 1) w1.heap.size w3 HG.out HND.out HB3.out HWR.out HMAP.out HLO.out)
   have hbe : Ix.body g (entL q n) = if g = 1 then Num.wideB n ++ Ix.ents Ix.one1 (entL q n) else if g = 2 then Num.smallB (Ix.syms (entL q n)).length ++ Ix.symsB false ByteArray.empty (Ix.syms (entL q n)) ++ (Num.smallB n ++ Ix.ents (Ix.one2 (Ix.syms (entL q n))) (entL q n))
    else Num.smallB (Ix.syms (entL q n)).length ++ Ix.symsB true ByteArray.empty (Ix.syms (entL q n)) ++ (Num.smallB n ++ Ix.ents3 (Ix.syms (entL q n)) 0 0 (entL q n) ++ Ix.postsB (entL q n) (Ix.labAll (entL q n))) := by unfold Ix.body; rw [hnl]
   have HBE := Lib.hid hbe
   obtain ⟨T, hT⟩ : ∃ T, T = Ix.body g (entL q n) := ⟨_, rfl⟩
   rw [← hT] at hbz HBE HPUT
   have HFIN : Hid (∀ (w4 : World), Below w1.heap.size w1 w4 → Wr w4 w1.heap.size (w1.heap.size + 1) w1.heap.size T → Calls Tryz.prog 33 #[.pointer (some ⟨w1.heap.size + 1, 0, none⟩)] w4 fun e w' => e = .returned (.string T) ∧ Below w1.heap.size w4 w') := Lib.hid fun w4 _ h4 => wString_any w1.heap.size _ _ T w4 h4 hbz.1
   have HTL := Lib.hid (fun U => Tail_any T (by unfold maxLen; omega) U)
   have htz : (Crc.four (Crc.ofB T)).size = 4 := Crc.four_size _
   have hcat : ¬ 9223372036854775807 < T.size + (Crc.four (Crc.ofB T)).size := by omega
   have hcat2 : ¬ 9223372036854775807 < T.size + 4 := by omega
   generalize Crc.four (Crc.ofB T) = ck at *
   clear hbe hT hwr hmap hx3 hb2 hb3 hnl HMAP HWR
   rcases (show g = 1 ∨ g = 2 ∨ g = 3 by omega) with rfl | rfl | rfl
   · have hc := HF1.out rfl
     have HT : Hid (Num.wideB n ++ Ix.ents Ix.one1 (entL q n) = T) := Lib.hid HBE.out.symm
     rw [HT.out] at hc
     have HC := Lib.hid hc
     clear hc HF1 HF2 HF3 HBE hg3 hz2
     go_upto_region 7 with fail
     rw [← hw2, ← hw3]
     clear hw2 hw3 hmm
     go_wp2_with fail
     refine HC.out.mono ?_; rintro e w4 ⟨rfl, hr4, hw4⟩
     have hb4 := HB3.out.trans hw4.bel
     have HST := Lib.hid (HFIN.out w4 hb4 hr4); have HB4 := Lib.hid hb4
     clear hr4 hw4 hb4 HC HFIN
     go_wp2_with fail
     refine HST.out.mono ?_; rintro e w5 ⟨rfl, hb5⟩
     have HB5 := Lib.hid (HB4.out.trans hb5)
     clear hb5 HST HB4
     go_wp2_with fail
     refine (HTL.out w5).mono ?_; rintro e w6 ⟨rfl, hb6⟩
     have HB6 := Lib.hid (HB1.out.trans ((HB5.out.trans (hb6.mono HB5.out.size)).mono HB1.out.size))
     clear hb6 HTL HB5
     go_wp2_with fail
     rw [HPUT.out]
     exact bodyPost_ret (results_tmp2 rfl _ _ _) rfl ⟨rfl, HB6.out⟩
   · have hc := HF2.out rfl
     have HT : Hid (Num.smallB (Ix.syms (entL q n)).length ++ Ix.symsB false ByteArray.empty (Ix.syms (entL q n)) ++ (Num.smallB n ++ Ix.ents (Ix.one2 (Ix.syms (entL q n))) (entL q n)) = T) := Lib.hid HBE.out.symm
     rw [HT.out] at hc
     have HC := Lib.hid hc
     clear hc HF1 HF2 HF3 HBE hg3 hz2
     go_upto_region 9 with fail
     rw [← hw2, ← hw3]
     clear hw2 hw3 hmm
     go_wp2_with fail
     refine HC.out.mono ?_; rintro e w4 ⟨rfl, hr4, hw4⟩
     have hb4 := HB3.out.trans hw4
     have HST := Lib.hid (HFIN.out w4 hb4 hr4); have HB4 := Lib.hid hb4
     clear hr4 hw4 hb4 HC HFIN
     go_wp2_with fail
     refine HST.out.mono ?_; rintro e w5 ⟨rfl, hb5⟩
     have HB5 := Lib.hid (HB4.out.trans hb5)
     clear hb5 HST HB4
     go_wp2_with fail
     refine (HTL.out w5).mono ?_; rintro e w6 ⟨rfl, hb6⟩
     have HB6 := Lib.hid (HB1.out.trans ((HB5.out.trans (hb6.mono HB5.out.size)).mono HB1.out.size))
     clear hb6 HTL HB5
     go_wp2_with fail
     rw [HPUT.out]
     exact bodyPost_ret (results_tmp2 rfl _ _ _) rfl ⟨rfl, HB6.out⟩
   · have hc := HF3.out rfl
     have HT : Hid (Num.smallB (Ix.syms (entL q n)).length ++ Ix.symsB true ByteArray.empty (Ix.syms (entL q n)) ++ (Num.smallB n ++ Ix.ents3 (Ix.syms (entL q n)) 0 0 (entL q n) ++ Ix.postsB (entL q n) (Ix.labAll (entL q n))) = T) := Lib.hid HBE.out.symm
     rw [HT.out] at hc
     have HC := Lib.hid hc
     clear hc HF1 HF2 HF3 HBE hg3 hz2
     go_upto_region 11 with fail
     rw [← hw2, ← hw3]
     clear hw2 hw3 hmm
     go_wp2_with fail
     refine HC.out.mono ?_; rintro e w4 ⟨rfl, hr4, hw4⟩
     have hb4 := HB3.out.trans hw4
     have HST := Lib.hid (HFIN.out w4 hb4 hr4); have HB4 := Lib.hid hb4
     clear hr4 hw4 hb4 HC HFIN
     go_wp2_with fail
     refine HST.out.mono ?_; rintro e w5 ⟨rfl, hb5⟩
     have HB5 := Lib.hid (HB4.out.trans hb5)
     clear hb5 HST HB4
     go_wp2_with fail
     refine (HTL.out w5).mono ?_; rintro e w6 ⟨rfl, hb6⟩
     have HB6 := Lib.hid (HB1.out.trans ((HB5.out.trans (hb6.mono HB5.out.size)).mono HB1.out.size))
     clear hb6 HTL HB5
     go_wp2_with fail
     rw [HPUT.out]
     exact bodyPost_ret (results_tmp2 rfl _ _ _) rfl ⟨rfl, HB6.out⟩
 · have hput := Ix.put_no hv
   have hq : (Ix.valid (entL q n) g == 0) = false := by simpa using hv
   rw [hput]
   clear h hput hv
   go_enter Tryz.func11, Tryz.ntmps11
   go_wp2_with fail
   refine HV.out.mono ?_; rintro e w1 ⟨rfl, hb1⟩
   have HB1 := Lib.hid hb1
   clear hb1 HV
   go_wp2_with fail
   exact bodyPost_ret (results_tmp2 rfl _ _ _) rfl ⟨rfl, HB1.out⟩
end Go.Proofs.YtliobahnekohmaaGreat
