/-
  The reader's entry of generation 1: the walk.
-/
import Derived.Test.YtliobahnekohmaaGreatIzD
import Derived.Deep.CutBlock
namespace Go.Proofs.YtliobahnekohmaaGreat
open Go.RowKit
namespace Ix
theorem take1_size {c : Cu} (h : (c.take 1).2.bad = false) : (c.take 1).1.size = 1 := by
 unfold Cu.take Cu.go at h ⊢
 simp only at h ⊢
 rcases hb : c.bad with _ | _
 · rw [hb] at h
   rcases ho : Num.tOk 1 c.s with _ | _
   · rw [ho] at h; cases h
   · have h1 : 1 ≤ c.s.size := by
      unfold Num.tOk at ho
      simp only [decide_eq_true_eq] at ho
      omega
     show (c.s.extract 0 (1 : Int).toNat).size = 1
     rw [ByteArray.size_extract]
     simp; omega
 · rw [hb] at h; cases h
theorem rdFix_bad : ∀ {k : Nat} {c : Cu}, c.bad = true → rdFix k c = ([], c)
 | 0, _, _ => rfl
 | k + 1, c, h => by unfold rdFix; rw [if_pos h]
theorem rdFix_go {k : Nat} {c : Cu} (h : c.bad = false) : rdFix (k + 1) c = (((c.fixed 12).1, ((c.fixed 12).2.fixed 12).1) :: (rdFix k ((c.fixed 12).2.fixed 12).2).1, (rdFix k ((c.fixed 12).2.fixed 12).2).2) := by
 have : rdFix (k + 1) c = if c.bad = true then ([], c) else (((c.fixed 12).1, ((c.fixed 12).2.fixed 12).1) :: (rdFix k ((c.fixed 12).2.fixed 12).2).1, (rdFix k ((c.fixed 12).2.fixed 12).2).2) := rfl
 rw [this, if_neg (by rw [h]; decide)]
structure FixAt (m : Nat) (c1 : Cu) (k : Nat) (l : List Lab) (c : Cu) : Prop where
 le : k ≤ m
 len : l.length = k
 was : c.bad = false → c1.bad = false
 is_ : rdFix m c1 = (l ++ (rdFix (m - k) c).1, (rdFix (m - k) c).2)
theorem FixAt.first (m : Nat) (c1 : Cu) : FixAt m c1 0 [] c1 := ⟨Nat.zero_le _, rfl, id, rfl⟩
theorem FixAt.step {m : Nat} {c1 : Cu} {k : Nat} {l : List Lab} {c : Cu} (h : FixAt m c1 k l c) (hb : c.bad = false) (hk : k < m) : FixAt m c1 (k + 1) (l ++ [((c.fixed 12).1, ((c.fixed 12).2.fixed 12).1)]) ((c.fixed 12).2.fixed 12).2 := by
 refine ⟨hk, by simp [h.len], fun hx => h.was hb, ?_⟩
 have e : m - k = (m - (k + 1)) + 1 := by omega
 rw [h.is_, e, rdFix_go hb]
 simp
theorem FixAt.stop {m : Nat} {c1 : Cu} {k : Nat} {l : List Lab} {c : Cu} (h : FixAt m c1 k l c) (hb : c.bad = true ∨ k = m) : rdFix m c1 = (l, c) := by
 rw [h.is_]
 rcases hb with hb | rfl
 · rw [rdFix_bad hb]; simp
 · rw [Nat.sub_self]; simp [rdFix]
end Ix
theorem Rb3.later {w U0 U V : World} {rb ob eb : Nat} {c : Ix.Cu} {S : List ByteArray} {sv v : Value} {la en : Int} {l : List Lab} {C : Array Value} (h : Rb3 w U0 U rb ob eb c S sv la en v l C) (hb : Below U.heap.size U V) : Rb3 w U0 V rb ob eb c S sv la en v l C :=
 ⟨h.rd.later hb, row_far h.own hb, grown_trans h.gr (grown_of_below hb), h.lt, h.ob_, h.eb_, heap_keep h.oc hb, heap_keep h.ec hb⟩
theorem Rb3.more {w U0 U V : World} {rb ob eb : Nat} {c : Ix.Cu} {S : List ByteArray} {sv v : Value} {la en : Int} {l : List Lab} {C : Array Value} {v2 : Value} {l2 : List Lab} (h : Rb3 w U0 U rb ob eb c S sv la en v l C) (hg : U.grownBy V v.ownBlock) (hr : V.ownsRow (U0.heap.size + 1) 37 2 v2 l2.length (l2.flatMap labC)) (hle : w.heap.size ≤ U0.heap.size) : Rb3 w U0 V rb ob eb c S sv la en v2 l2 C := by
 have q1 := h.lt; have q2 := h.ob_; have q3 := h.eb_
 have hlt : ∀ r, v.ownBlock = some r → U0.heap.size + 1 ≤ r := fun r e => (h.own.lt r e).1
 refine ⟨h.rd.grown hg (fun r e => ⟨fun e2 => ?_, ?_, ?_⟩), hr, grown_beyond h.gr hg (fun r e => by have := hlt r e; omega), q1, q2, q3, (hg.block ob (Array.getElem?_eq_some_iff.1 h.oc).1 (fun e => ?_)).trans h.oc, (hg.block eb (Array.getElem?_eq_some_iff.1 h.ec).1 (fun e => ?_)).trans h.ec⟩
 · have := hlt r e; omega
 · exact row_apart h.rd.own h.own (by decide) e
 · have := hlt r e; omega
 · have := hlt ob e.symm; omega
 · exact block_other h.own h.ec (by decide) e.symm
theorem byte_le (x : UInt8) : x.toNat ≤ 255 := by have := x.toNat_lt; omega
theorem byte_wrap (x : UInt8) : wrap64 (x.toNat : Int) = (x.toNat : Int) := by have h := byte_le x; exact IntWalk.wrap64_in _ ⟨by omega, by omega⟩
theorem w64_succ {k : Nat} (h : k < 256) : wrap64 ((k : Int) + 1) = ((k + 1 : Nat) : Int) := by rw [IntWalk.wrap64_in _ ⟨by omega, by omega⟩]; omega
theorem meas_lt {m k : Nat} (h : k < m) (h2 : k < 256) : m - (intOf (.int .i64 (wrap64 ((k : Int) + 1)))).toNat < m - (intOf (.int .i64 (k : Int))).toNat := by rw [w64_succ h2]; show m - (k + 1) < m - k; omega
theorem one_row_kept {k r bb : Nat} {x : Nat → Nat → Value} {U V : World} (h : Row k x U (some ⟨bb, 0, none⟩) 1) (hg : U.grownBy V (some r)) (hne : bb ≠ r) : Row k x V (some ⟨bb, 0, none⟩) 1 := fun h0 => by
 obtain ⟨ad, e, hlt, hc⟩ := h h0
 cases e
 refine ⟨_, rfl, Nat.lt_of_lt_of_le hlt hg.size, fun i hi j hj => ?_⟩
 have h1 := hc i hi j hj
 rw [Addr.add_lit] at h1 ⊢
 unfold World.cell? at h1 ⊢
 rw [hg.block bb hlt (fun e => hne (Option.some.inj e))]
 exact h1
theorem Rb3.fin {w U0 U : World} {rb ob eb : Nat} {c : Ix.Cu} {S : List ByteArray} {sv : Value} {la en : Int} {l : List Lab} {A : Option Addr} {k : Nat} {x y z : Int} (h : Rb3 w U0 U rb ob eb c S sv la en (.slice A l.length k) l #[.slice A l.length k, .int .i64 x, .int .i64 y, .int .i64 z]) :
 U.cell? ⟨ob, 0, none⟩ = some (.slice none 0 0) ∧ U.cell? ⟨ob, 1, none⟩ = some (.int .i64 0) ∧ U.cell? ⟨ob, 2, none⟩ = some (.int .i64 0) ∧ U.cell? ⟨ob, 3, none⟩ = some (.int .i64 0) ∧ U.frozen? ⟨ob, 0, none⟩ = false ∧ U.frozen? ⟨ob, 1, none⟩ = false ∧ U.frozen? ⟨ob, 2, none⟩ = false ∧ U.frozen? ⟨ob, 3, none⟩ = false ∧
 U.cell? ⟨eb, 0, none⟩ = some (.slice A l.length k) ∧ U.cell? ⟨eb, 1, none⟩ = some (.int .i64 x) ∧ U.cell? ⟨eb, 2, none⟩ = some (.int .i64 y) ∧ U.cell? ⟨eb, 3, none⟩ = some (.int .i64 z) ∧
 ((((U.setCell ⟨ob, 0, none⟩ (.slice A l.length k)).setCell ⟨ob, 1, none⟩ (.int .i64 x)).setCell ⟨ob, 2, none⟩ (.int .i64 y)).setCell ⟨ob, 3, none⟩ (.int .i64 z)).heap[ob]? = some (.cells #[.slice A l.length k, .int .i64 x, .int .i64 y, .int .i64 z] 59 (0, 0)) ∧
 LRow ((((U.setCell ⟨ob, 0, none⟩ (.slice A l.length k)).setCell ⟨ob, 1, none⟩ (.int .i64 x)).setCell ⟨ob, 2, none⟩ (.int .i64 y)).setCell ⟨ob, 3, none⟩ (.int .i64 z)) A l ∧ Rdr w ((((U.setCell ⟨ob, 0, none⟩ (.slice A l.length k)).setCell ⟨ob, 1, none⟩ (.int .i64 x)).setCell ⟨ob, 2, none⟩ (.int .i64 y)).setCell ⟨ob, 3, none⟩ (.int .i64 z)) rb c S sv la en ∧ U0.grownBy ((((U.setCell ⟨ob, 0, none⟩ (.slice A l.length k)).setCell ⟨ob, 1, none⟩ (.int .i64 x)).setCell ⟨ob, 2, none⟩ (.int .i64 y)).setCell ⟨ob, 3, none⟩ (.int .i64 z)) (some rb) := by
 obtain ⟨hr11, hg11⟩ := store4 h.oc rfl (.slice A l.length k) (.int .i64 x) (.int .i64 y) (.int .i64 z)
 have q1 := h.lt; have q2 := h.ob_
 have hno : ∀ {base e n : Nat} {y : Value} {k : Nat} {xs : List Value}, U.ownsRow base e k y n xs → e ≠ 59 → y.ownBlock ≠ some ob := fun {base e n y k xs} ho hT => block_other ho h.oc (fun e => hT e.symm)
 obtain ⟨A2, k2, e2, hL⟩ := lrow_own (row_kept h.own hg11 (fun r e => by cases e; exact hno h.own (by decide)))
 cases e2
 have c0 := cell_of_row _ _ 0 _ _ _ h.oc; have c1 := cell_of_row _ _ 1 _ _ _ h.oc; have c2 := cell_of_row _ _ 2 _ _ _ h.oc; have c3 := cell_of_row _ _ 3 _ _ _ h.oc
 have e0 := cell_of_row _ _ 0 _ _ _ h.ec; have e1 := cell_of_row _ _ 1 _ _ _ h.ec; have e2 := cell_of_row _ _ 2 _ _ _ h.ec; have e3 := cell_of_row _ _ 3 _ _ _ h.ec
 unfold zeroE at c0 c1 c2 c3
 simp only [List.getElem?_toArray, List.getElem?_cons_zero, List.getElem?_cons_succ] at c0 c1 c2 c3 e0 e1 e2 e3
 refine ⟨c0, c1, c2, c3, frozen_of_row _ _ 0 _ _ h.oc, frozen_of_row _ _ 1 _ _ h.oc, frozen_of_row _ _ 2 _ _ h.oc, frozen_of_row _ _ 3 _ _ h.oc, e0, e1, e2, e3, hr11, hL, h.rd.grown hg11 (fun r e => ?_), grown_beyond h.gr hg11 (fun r e => by cases e; omega)⟩
 obtain rfl : ob = r := Option.some.inj e
 exact ⟨by omega, hno h.rd.own (by decide), by have := h.rd.lo; omega⟩
set_option maxRecDepth 100000 in
set_option maxHeartbeats 8000000 in
theorem rfirst {w U : World} {rb : Nat} {c : Ix.Cu} {S : List ByteArray} {sv : Value} {la en : Int} (h : Rdr w U rb c S sv la en) :
 Calls Tryz.prog 93 #[.pointer (some ⟨rb, 0, none⟩)] U (EntOut w U rb (Ix.rd1 c).1 (Ix.rd1 c).2 S sv la en) := by
 have hr : Ix.rd1 c = (⟨(Ix.rdFix (Ix.b0 (c.take 1).1) (c.take 1).2).1, Ix.i64 (Ix.rdFix (Ix.b0 (c.take 1).1) (c.take 1).2).2.wide.1, Ix.i64 (Ix.rdFix (Ix.b0 (c.take 1).1) (c.take 1).2).2.wide.2.wide.1, Ix.i64 (Ix.rdFix (Ix.b0 (c.take 1).1) (c.take 1).2).2.wide.2.wide.2.wide.1⟩, (Ix.rdFix (Ix.b0 (c.take 1).1) (c.take 1).2).2.wide.2.wide.2.wide.2) := rfl
 have hlt := h.lt
 have HLE : Hid (w.heap.size ≤ U.heap.size) := Lib.hid h.bel.size
 obtain ⟨w1, hw1⟩ : ∃ w1, w1 = U.alloc (.cells zeroE 59) := ⟨_, rfl⟩
 obtain ⟨w2, hw2⟩ : ∃ w2, w2 = w1.alloc (.cells zeroE 59) := ⟨_, rfl⟩
 have hb1 : Below U.heap.size U w1 := by rw [hw1]; exact (Below.refl _ _).alloc (Nat.le_refl _) _
 have hb2 : Below w1.heap.size w1 w2 := by rw [hw2]; exact (Below.refl _ _).alloc (Nat.le_refl _) _
 have ho1 : w1.heap[U.heap.size]? = some (.cells zeroE 59 (0, 0)) := by rw [hw1]; exact heap_alloc_new U _
 have ho2 : w2.heap[w1.heap.size]? = some (.cells zeroE 59 (0, 0)) := by rw [hw2]; exact heap_alloc_new w1 _
 have hz1 : w1.heap.size = U.heap.size + 1 := by rw [hw1, World.size_alloc]
 have HB12 := Lib.hid (below_step hb1 hb2)
 have HT := Lib.hid (rtake (h.later HB12.out) 1)
 have hs1 := Ix.take1_size (c := c)
 generalize c.take 1 = x0 at *
 obtain ⟨n, c1⟩ := x0
 simp only at HT hr hs1
 have H3 : Hid (∀ V, Rdr w V rb c1 S sv la en → w2.grownBy V (some rb) → Rb3 w U V rb U.heap.size w1.heap.size c1 S sv la en (.slice none 0 0) [] #[.slice none 0 0, .int .i64 0, .int .i64 0, .int .i64 0]) := Lib.hid (fun V hV hg =>
  ⟨hV, World.ownsRow_nil _ _ _ _, grown_trans (grown_of_below HB12.out) hg, hlt, rfl, by omega, grown_keep (heap_keep ho1 hb2) hg (by omega), grown_keep ho2 hg (by omega)⟩)
 obtain ⟨m, hm⟩ : ∃ m, m = Ix.b0 n := ⟨_, rfl⟩
 rw [← hm] at hr
 have HFX := Lib.hid (fun (k : Nat) l c (hf : Ix.FixAt m c1 k l c) hb => hf.stop hb)
 generalize Ix.rdFix m c1 = x1 at *
 obtain ⟨lf, cf⟩ := x1
 simp only at hr
 have HN1 := Lib.hid (fun U1 (hU : Rdr w U1 rb cf S sv la en) => rwide hU)
 generalize cf.wide = x1 at *
 obtain ⟨n1, c2⟩ := x1
 simp only at HN1 hr
 have HN2 := Lib.hid (fun U1 (hU : Rdr w U1 rb c2 S sv la en) => rwide hU)
 generalize c2.wide = x2 at *
 obtain ⟨n2, c3⟩ := x2
 simp only at HN2 hr
 have HN3 := Lib.hid (fun U1 (hU : Rdr w U1 rb c3 S sv la en) => rwide hU)
 generalize c3.wide = x3 at *
 obtain ⟨n3, c4⟩ := x3
 simp only at HN3 hr
 have g1 : IntKind.i64.wrap (n1 : Int) = Ix.i64 n1 := rfl
 have g2 : IntKind.i64.wrap (n2 : Int) = Ix.i64 n2 := rfl
 have g3 : IntKind.i64.wrap (n3 : Int) = Ix.i64 n3 := rfl
 rw [hr]
 have HM := Lib.hid hm; have HS1 := Lib.hid hs1
 clear hr h hb1 hb2 ho1 ho2 hm hs1
 unfold zeroE at hw1 hw2
 go_enter Tryz.func93, Tryz.ntmps93
 go_upto_region 2 with fail
 rw [← hw1, ← hw2]
 clear hw1 hw2
 obtain ⟨ob, hob⟩ : ∃ ob, ob = U.heap.size := ⟨_, rfl⟩
 rw [hz1] at H3
 clear hz1
 rw [← hob] at H3 ⊢
 obtain ⟨eb, heb⟩ : ∃ eb, eb = ob + 1 := ⟨_, rfl⟩
 rw [← heb] at H3 ⊢
 clear heb HB12
 have HOB := Lib.hid hob
 clear hob
 go_wp2_with fail
 refine HT.out.mono ?_; rintro e w3 ⟨rfl, h1, h2⟩
 have H4 := Lib.hid (H3.out w3 h1 h2)
 clear h1 h2 HT H3
 go_upto_block 0 with fail
 go_cut [5] (fun _ wx => ∃ (A : Option Addr) (cp : Nat), Rb3 w U wx rb ob eb cf S sv la en (.slice A lf.length cp) lf #[.slice A lf.length cp, .int .i64 0, .int .i64 0, .int .i64 0])
 case first =>
  go_wp2_with fail
  go_loopw [5] (fun i wr => ∃ (k : Nat) (l : List Lab) (ci : Ix.Cu) (A : Option Addr) (cp : Nat), i = .int .i64 k ∧ Ix.FixAt m c1 k l ci ∧ Rb3 w U wr rb ob eb ci S sv la en (.slice A l.length cp) l #[.slice A l.length cp, .int .i64 0, .int .i64 0, .int .i64 0]) (fun i _ => m - (intOf i).toNat)
  case atStart => exact ⟨0, [], c1, none, 0, rfl, Ix.FixAt.first m c1, H4.out⟩
  case round =>
   obtain ⟨k, l, ci, A, cp, rfl, hf, hrb⟩ := hrel
   have HF := Lib.hid hf; have HR := Lib.hid hrb
   have k0 := hrb.rd.cells.2.1
   clear hf hrb H4
   rcases hbad : ci.bad with _ | _
   · have hn1 := HS1.out (HF.out.was hbad)
     have hpos : 0 < n.size := by omega
     have hposl : 0 < n.data.toList.length := by rw [Crc.size_list]; exact hpos
     have hmx : m = (n[0]'hpos).toNat := by
      rw [HM.out]
      unfold Ix.b0
      rw [List.getD_eq_getElem?_getD, List.getElem?_eq_getElem hposl]
      rfl
     have hm255 : m ≤ 255 := by rw [hmx]; exact byte_le _
     have w8 : wrap64 ((n[0]'hpos).toNat : Int) = (m : Int) := by rw [hmx]; exact byte_wrap _
     have i2 : (0 : Int) < (n.size : Int) := by omega
     rw [hbad] at k0
     have HBAD := Lib.hid hbad
     clear hmx hposl hbad hn1
     by_cases hkm : k < m
     · have d1 : decide ((k : Int) < (m : Int)) = true := decide_eq_true (Int.ofNat_lt.2 hkm)
       have HKM : Hid (k < 256) := Lib.hid (Nat.lt_of_lt_of_le hkm (Nat.le_succ_of_le hm255))
       have HK1 := Lib.hid (fun U1 (hU : Rdr w U1 rb ci S sv la en) => rfixed hU)
       have hst := HF.out.step HBAD.out hkm
       generalize ci.fixed 12 = y0 at *
       obtain ⟨t1, c5⟩ := y0
       simp only at HK1 hst
       have HK2 := Lib.hid (fun U1 (hU : Rdr w U1 rb c5 S sv la en) => rfixed hU)
       generalize c5.fixed 12 = y1 at *
       obtain ⟨t2, c6⟩ := y1
       simp only at HK2 hst
       have HST := Lib.hid hst
       clear hst
       go_upto_region 6 with fail
       refine plain_robD [(0, some 25), (1, some 26), (2, some 27), (3, some 28), (4, some 29), (5, some 30), (6, some 31), (7, some 32), (8, some 33), (9, some 34), (10, some 35), (11, some 36)] [12, 13, 14] (fun U V => U.grownBy V (some rb)) (fun δ V => Rb3 w U V rb ob eb (if δ 9 = true then c6 else if δ 5 = true then c5 else ci) S sv la en (.slice A l.length cp) l #[.slice A l.length cp, .int .i64 0, .int .i64 0, .int .i64 0]) [(0, .pointer (some ⟨eb, 0, none⟩)), (1, .slice A l.length cp), (2, .pointer (some ⟨rb, 0, none⟩)), (3, .pointer (some ⟨rb, 0, none⟩)), (4, .pointer (some ⟨rb, 0, none⟩)), (5, .string t1), (6, .pointer (some ⟨rb, 0, none⟩)), (7, .pointer (some ⟨rb, 0, none⟩)), (8, .pointer (some ⟨rb, 0, none⟩)), (9, .string t2), (10, .agg #[.string t1, .string t2])] [(11, (fun v W => ∃ bb, v = .slice (some ⟨bb, 0, none⟩) 1 1 ∧ rb < bb ∧ Row 2 (lx2 (t1, t2)) W (some ⟨bb, 0, none⟩) 1 : Value → World → Prop))] 3 (by kernel_rfl) (by kernel_rfl) (by kernel_rfl) (HR.out.drew) ?_ ?_ ?_
       · intro p hp
         simp only [List.mem_cons, List.not_mem_nil, or_false] at hp
         subst hp
         exact fun v U V h hb => by obtain ⟨bb, e, hl, hr⟩ := h; exact ⟨bb, e, hl, one_row_kept hr hb (by omega)⟩
       · refine ⟨⟨_, rfl, fun ν δ U hU h00 h1 h2 hp => ?_⟩, ?_⟩
         · simp only [putsν, Act.put, List.setIfInBounds_toArray, List.set_cons_zero, List.set_cons_succ]
           dsimp only at hU
           exact Yld.value (.pointer (some ⟨eb, 0, none⟩)) U (by kernel_rfl) (by go_simp) ⟨grown_refl _ _, hU, Fx.fixed rfl rfl⟩
         refine ⟨⟨_, rfl, fun ν δ U hU h00 h1 h2 hp => ?_⟩, ?_⟩
         · simp only [putsν, Act.put, List.setIfInBounds_toArray, List.set_cons_zero, List.set_cons_succ]
           have e0 := (hp 0 (by kernel_rfl) (by kernel_rfl)).val _ rfl
           simp only [e0]
           dsimp only at hU
           exact Yld.value (.slice A l.length cp) U (by kernel_rfl) (by have h0 : U.cell? ⟨eb, 0, none⟩ = some (.slice A l.length cp) := (by have h9 := cell_of_row _ _ 0 _ _ _ hU.ec; simpa using h9); go_simp) ⟨grown_refl _ _, hU, Fx.fixed rfl rfl⟩
         refine ⟨⟨_, rfl, fun ν δ U hU h00 h1 h2 hp => ?_⟩, ?_⟩
         · simp only [putsν, Act.put, List.setIfInBounds_toArray, List.set_cons_zero, List.set_cons_succ]
           dsimp only at hU
           exact Yld.value (.pointer (some ⟨rb, 0, none⟩)) U (by kernel_rfl) (by go_simp) ⟨grown_refl _ _, hU, Fx.fixed rfl rfl⟩
         refine ⟨⟨_, rfl, fun ν δ U hU h00 h1 h2 hp => ?_⟩, ?_⟩
         · simp only [putsν, Act.put, List.setIfInBounds_toArray, List.set_cons_zero, List.set_cons_succ]
           have e2 := (hp 2 (by kernel_rfl) (by kernel_rfl)).val _ rfl
           simp only [e2]
           dsimp only at hU
           exact Yld.value (.pointer (some ⟨rb, 0, none⟩)) U (by kernel_rfl) (by go_simp) ⟨grown_refl _ _, hU, Fx.fixed rfl rfl⟩
         refine ⟨⟨_, rfl, fun ν δ U hU h00 h1 h2 hp => ?_⟩, ?_⟩
         · simp only [putsν, Act.put, List.setIfInBounds_toArray, List.set_cons_zero, List.set_cons_succ]
           have e3 := (hp 3 (by kernel_rfl) (by kernel_rfl)).val _ rfl
           simp only [e3]
           dsimp only at hU
           exact Yld.value (.pointer (some ⟨rb, 0, none⟩)) U (by kernel_rfl) (by go_simp) ⟨grown_refl _ _, hU, Fx.fixed rfl rfl⟩
         refine ⟨⟨_, rfl, fun ν δ U hU h00 h1 h2 hp => ?_⟩, ?_⟩
         · simp only [putsν, Act.put, List.setIfInBounds_toArray, List.set_cons_zero, List.set_cons_succ]
           have e4 := (hp 4 (by kernel_rfl) (by kernel_rfl)).val _ rfl
           simp only [e4]
           dsimp only at hU
           refine Yld.call 128 #[.pointer (some ⟨rb, 0, none⟩), .int .i64 12] (by kernel_rfl) (by go_simp) ?_
           have hcall := HK1.out U (by have hc := hU.rd; rw [h00, h2 9 (by kernel_rfl) (by kernel_rfl)] at hc; exact hc)
           refine hcall.mono ?_
           rintro e V ⟨rfl, hc, hg⟩; exact ⟨_, rfl, hg, by simpa [h2 9 (by kernel_rfl) (by kernel_rfl)] using hU.step hc hg, Fx.fixed rfl rfl⟩
         refine ⟨⟨_, rfl, fun ν δ U hU h00 h1 h2 hp => ?_⟩, ?_⟩
         · simp only [putsν, Act.put, List.setIfInBounds_toArray, List.set_cons_zero, List.set_cons_succ]
           dsimp only at hU
           exact Yld.value (.pointer (some ⟨rb, 0, none⟩)) U (by kernel_rfl) (by go_simp) ⟨grown_refl _ _, hU, Fx.fixed rfl rfl⟩
         refine ⟨⟨_, rfl, fun ν δ U hU h00 h1 h2 hp => ?_⟩, ?_⟩
         · simp only [putsν, Act.put, List.setIfInBounds_toArray, List.set_cons_zero, List.set_cons_succ]
           have e6 := (hp 6 (by kernel_rfl) (by kernel_rfl)).val _ rfl
           simp only [e6]
           dsimp only at hU
           exact Yld.value (.pointer (some ⟨rb, 0, none⟩)) U (by kernel_rfl) (by go_simp) ⟨grown_refl _ _, hU, Fx.fixed rfl rfl⟩
         refine ⟨⟨_, rfl, fun ν δ U hU h00 h1 h2 hp => ?_⟩, ?_⟩
         · simp only [putsν, Act.put, List.setIfInBounds_toArray, List.set_cons_zero, List.set_cons_succ]
           have e7 := (hp 7 (by kernel_rfl) (by kernel_rfl)).val _ rfl
           simp only [e7]
           dsimp only at hU
           exact Yld.value (.pointer (some ⟨rb, 0, none⟩)) U (by kernel_rfl) (by go_simp) ⟨grown_refl _ _, hU, Fx.fixed rfl rfl⟩
         refine ⟨⟨_, rfl, fun ν δ U hU h00 h1 h2 hp => ?_⟩, ?_⟩
         · simp only [putsν, Act.put, List.setIfInBounds_toArray, List.set_cons_zero, List.set_cons_succ]
           have e8 := (hp 8 (by kernel_rfl) (by kernel_rfl)).val _ rfl
           simp only [e8]
           dsimp only at hU
           refine Yld.call 128 #[.pointer (some ⟨rb, 0, none⟩), .int .i64 12] (by kernel_rfl) (by go_simp) ?_
           have hcall := HK2.out U (by have hc := hU.rd; rw [h00, h1 5 (by kernel_rfl) (by kernel_rfl)] at hc; exact hc)
           refine hcall.mono ?_
           rintro e V ⟨rfl, hc, hg⟩; exact ⟨_, rfl, hg, by simpa using hU.step hc hg, Fx.fixed rfl rfl⟩
         refine ⟨⟨_, rfl, fun ν δ U hU h00 h1 h2 hp => ?_⟩, ?_⟩
         · simp only [putsν, Act.put, List.setIfInBounds_toArray, List.set_cons_zero, List.set_cons_succ]
           have e5 := (hp 5 (by kernel_rfl) (by kernel_rfl)).val _ rfl
           have e9 := (hp 9 (by kernel_rfl) (by kernel_rfl)).val _ rfl
           simp only [e5, e9]
           dsimp only at hU
           exact Yld.value (.agg #[.string t1, .string t2]) U (by kernel_rfl) (by go_simp) ⟨grown_refl _ _, hU, Fx.fixed rfl rfl⟩
         refine ⟨⟨_, rfl, fun ν δ U hU h00 h1 h2 hp => ?_⟩, ?_⟩
         · simp only [putsν, Act.put, List.setIfInBounds_toArray, List.set_cons_zero, List.set_cons_succ]
           have e10 := (hp 10 (by kernel_rfl) (by kernel_rfl)).val _ rfl
           simp only [e10]
           dsimp only at hU
           exact Yld.value (.slice (some ⟨U.heap.size, 0, none⟩) 1 1) (U.alloc (.cells #[.string t1, .string t2] 37)) (by kernel_rfl) (by go_simp) ⟨grown_of_below ((Below.refl _ _).alloc (Nat.le_refl _) _), hU.later ((Below.refl _ _).alloc (Nat.le_refl _) _), Fx.some_ rfl rfl ⟨_, rfl, hU.rd.lt, lx2_row U (t1, t2) 37⟩⟩
         trivial
       intro ν δ w5 hS5 hd hf
       have e0 := (hf 0 (by kernel_rfl)).val _ rfl
       have e1 := (hf 1 (by kernel_rfl)).val _ rfl
       have e2 := (hf 2 (by kernel_rfl)).val _ rfl
       have e3 := (hf 3 (by kernel_rfl)).val _ rfl
       have e4 := (hf 4 (by kernel_rfl)).val _ rfl
       have e5 := (hf 5 (by kernel_rfl)).val _ rfl
       have e6 := (hf 6 (by kernel_rfl)).val _ rfl
       have e7 := (hf 7 (by kernel_rfl)).val _ rfl
       have e8 := (hf 8 (by kernel_rfl)).val _ rfl
       have e9 := (hf 9 (by kernel_rfl)).val _ rfl
       have e10 := (hf 10 (by kernel_rfl)).val _ rfl
       have c11 := (hf 11 (by kernel_rfl)).is _ rfl
       simp only [putsν, Act.put, List.setIfInBounds_toArray, List.set_cons_zero, List.set_cons_succ, e0, e1, e2, e3, e4, e5, e6, e7, e8, e9, e10]
       clear hf e0 e1 e2 e3 e4 e5 e6 e7 e8 e9 e10
       rw [hd 9 (by kernel_rfl)] at hS5
       simp only [if_true] at hS5
       obtain ⟨bb, hv, -, hR5⟩ := c11
       simp only [hv]
       clear hd hv
       refine wpAnyT_one (i := 12) (by kernel_rfl) rfl (by kernel_rfl) ?_
       intro K0 hK
       have hle := HLE.out
       have hlen := HF.out.len
       refine wp_append_row _ _ _ 57 37 rfl 2 32 (.agg #[.string ByteArray.empty, .string ByteArray.empty]) Tryz.underlying57 infoL rfl (by decide) (by decide) (U.heap.size + 1) (.slice A l.length cp) l.length (l.flatMap labC) rfl hS5.own ⟨bb, 0, none⟩ 1 1 (lx2 (t1, t2)) (lx2_one (t1, t2)) rfl hR5 (by have := HKM.out; omega) (by have := hS5.gr.size; have := hS5.ob_; have := (Array.getElem?_eq_some_iff.1 hS5.oc).1; omega) ?_
       intro v6 w6 hown6 hg6 _
       rw [lx2_cells] at hown6
       have hS6 := hS5.more (v2 := v6) (l2 := l ++ [(t1, t2)]) hg6 (by
        rw [List.length_append, List.flatMap_append]
        have e : [(t1, t2)].flatMap labC = labC (t1, t2) := by simp
        rw [e]; exact hown6) hle
       obtain ⟨l2, hl2⟩ : ∃ l2, l2 = l ++ [(t1, t2)] := ⟨_, rfl⟩
       rw [← hl2] at hS6
       have hst := HST.out
       rw [← hl2] at hst
       have HST2 := Lib.hid hst
       obtain ⟨A6, k6, hv6, -⟩ := lrow_own hS6.own
       subst hv6
       clear hown6 hg6 hS5 hR5 hl2 hst HST
       refine hK _ _ (fun _ => trivial) ?_
       clear hK K0
       have f0 := frozen_of_row _ _ 0 _ _ hS6.ec; have x0 := cell_of_row _ _ 0 _ _ _ hS6.ec
       simp only [List.getElem?_toArray, List.getElem?_cons_zero] at x0
       refine wpAnyT_one (i := 13) (by kernel_rfl) rfl (by kernel_rfl) ?_
       intro K0 hK
       unfold Oper.wp
       go_simp
       refine hK _ _ (fun _ => trivial) ?_
       clear hK K0
       refine wpAnyT_one (i := 14) (by kernel_rfl) rfl (by kernel_rfl) ?_
       intro K0 hK
       unfold Oper.wp
       go_simp
       have hS7 := hS6.put 0 (.slice A6 l2.length k6)
       have hE7 : (#[.slice A l.length cp, .int .i64 0, .int .i64 0, .int .i64 0] : Array Value).setIfInBounds 0 (.slice A6 l2.length k6) = #[.slice A6 l2.length k6, .int .i64 0, .int .i64 0, .int .i64 0] := rfl
       rw [hE7] at hS7
       have H7 := Lib.hid hS7
       clear hS7 hE7 hS6 f0 x0 hle
       refine hK _ _ (fun _ => trivial) ?_
       clear hK K0
       refine wpAnyT_done (by kernel_rfl) ?_ _
       refine only_mk ?_
       clear HK1 HK2 HR HF k0 w8 d1 i2 hm255 hlen
       go_wp2_with fail
       have hkm2 := HKM.out
       go_roundw
       case rel => exact ⟨k + 1, l2, c6, A6, k6, by rw [w64_succ hkm2], HST2.out, H7.out⟩
       case measure => exact meas_lt hkm hkm2
     · have d1 : decide ((k : Int) < (m : Int)) = false := decide_eq_false (fun h => hkm (Int.ofNat_lt.1 h))
       have hstop := HFX.out k l ci HF.out (Or.inr (Nat.le_antisymm HF.out.le (Nat.le_of_not_lt hkm)))
       cases hstop
       go_wp2_with fail
       go_meet
       exact ⟨A, cp, HR.out⟩
   · have hstop := HFX.out k l ci HF.out (Or.inl hbad)
     cases hstop
     rw [hbad] at k0
     go_wp2_with fail
     go_meet
     exact ⟨A, cp, HR.out⟩
 case rest =>
  obtain ⟨A, cp, hrb⟩ := hcut
  have HR := Lib.hid hrb
  clear hrb H4 HM HS1 HFX
  go_upto_region 7 with fail
  refine plain_robD [(0, some 39), (1, some 40), (2, some 41), (3, some 42), (4, some 43), (5, some 44), (6, some 45), (7, some 46), (8, some 47), (9, some 48), (10, some 49), (11, some 50), (12, some 51), (13, some 52), (14, some 53), (15, some 54), (16, none), (17, some 55), (18, none), (19, some 56), (20, none)] [] (fun _ _ => True) (fun δ V => Rb3 w U V rb ob eb (if δ 13 = true then c4 else if δ 8 = true then c3 else if δ 3 = true then c2 else cf) S sv la en (.slice A lf.length cp) lf #[.slice A lf.length cp, .int .i64 (if δ 16 = true then Ix.i64 n1 else 0), .int .i64 (if δ 18 = true then Ix.i64 n2 else 0), .int .i64 (if δ 20 = true then Ix.i64 n3 else 0)]) [(0, .pointer (some ⟨rb, 0, none⟩)), (1, .pointer (some ⟨rb, 0, none⟩)), (2, .pointer (some ⟨rb, 0, none⟩)), (3, .int .u64 (n1 : Int)), (4, .int .i64 (Ix.i64 n1)), (5, .pointer (some ⟨rb, 0, none⟩)), (6, .pointer (some ⟨rb, 0, none⟩)), (7, .pointer (some ⟨rb, 0, none⟩)), (8, .int .u64 (n2 : Int)), (9, .int .i64 (Ix.i64 n2)), (10, .pointer (some ⟨rb, 0, none⟩)), (11, .pointer (some ⟨rb, 0, none⟩)), (12, .pointer (some ⟨rb, 0, none⟩)), (13, .int .u64 (n3 : Int)), (14, .int .i64 (Ix.i64 n3)), (15, .pointer (some ⟨eb, 1, none⟩)), (16, undef), (17, .pointer (some ⟨eb, 2, none⟩)), (18, undef), (19, .pointer (some ⟨eb, 3, none⟩)), (20, undef)] [] 0 (by kernel_rfl) (by kernel_rfl) (by kernel_rfl) (HR.out.drew) ?_ ?_ ?_
  · intro p hp; cases hp
  · refine ⟨⟨_, rfl, fun ν δ U hU h00 h1 h2 hp => ?_⟩, ?_⟩
    · simp only [putsν, Act.put, List.setIfInBounds_toArray, List.set_cons_zero, List.set_cons_succ]
      dsimp only at hU
      exact Yld.value (.pointer (some ⟨rb, 0, none⟩)) U (by kernel_rfl) (by go_simp) ⟨trivial, hU, Fx.fixed rfl rfl⟩
    refine ⟨⟨_, rfl, fun ν δ U hU h00 h1 h2 hp => ?_⟩, ?_⟩
    · simp only [putsν, Act.put, List.setIfInBounds_toArray, List.set_cons_zero, List.set_cons_succ]
      have e0 := (hp 0 (by kernel_rfl) (by kernel_rfl)).val _ rfl
      simp only [e0]
      dsimp only at hU
      exact Yld.value (.pointer (some ⟨rb, 0, none⟩)) U (by kernel_rfl) (by go_simp) ⟨trivial, hU, Fx.fixed rfl rfl⟩
    refine ⟨⟨_, rfl, fun ν δ U hU h00 h1 h2 hp => ?_⟩, ?_⟩
    · simp only [putsν, Act.put, List.setIfInBounds_toArray, List.set_cons_zero, List.set_cons_succ]
      have e1 := (hp 1 (by kernel_rfl) (by kernel_rfl)).val _ rfl
      simp only [e1]
      dsimp only at hU
      exact Yld.value (.pointer (some ⟨rb, 0, none⟩)) U (by kernel_rfl) (by go_simp) ⟨trivial, hU, Fx.fixed rfl rfl⟩
    refine ⟨⟨_, rfl, fun ν δ U hU h00 h1 h2 hp => ?_⟩, ?_⟩
    · simp only [putsν, Act.put, List.setIfInBounds_toArray, List.set_cons_zero, List.set_cons_succ]
      have e2 := (hp 2 (by kernel_rfl) (by kernel_rfl)).val _ rfl
      simp only [e2]
      dsimp only at hU
      refine Yld.call 91 #[.pointer (some ⟨rb, 0, none⟩)] (by kernel_rfl) (by go_simp) ?_
      have hcall := HN1.out U (by have hc := hU.rd; rw [h00, h2 8 (by kernel_rfl) (by kernel_rfl), h2 13 (by kernel_rfl) (by kernel_rfl)] at hc; exact hc)
      refine hcall.mono ?_
      rintro e V ⟨rfl, hc, hg⟩; exact ⟨_, rfl, trivial, by simpa [h2 8 (by kernel_rfl) (by kernel_rfl), h2 13 (by kernel_rfl) (by kernel_rfl)] using hU.step hc hg, Fx.fixed rfl rfl⟩
    refine ⟨⟨_, rfl, fun ν δ U hU h00 h1 h2 hp => ?_⟩, ?_⟩
    · simp only [putsν, Act.put, List.setIfInBounds_toArray, List.set_cons_zero, List.set_cons_succ]
      have e3 := (hp 3 (by kernel_rfl) (by kernel_rfl)).val _ rfl
      simp only [e3]
      dsimp only at hU
      exact Yld.value (.int .i64 (Ix.i64 n1)) U (by kernel_rfl) (by go_simp) ⟨trivial, hU, Fx.fixed rfl rfl⟩
    refine ⟨⟨_, rfl, fun ν δ U hU h00 h1 h2 hp => ?_⟩, ?_⟩
    · simp only [putsν, Act.put, List.setIfInBounds_toArray, List.set_cons_zero, List.set_cons_succ]
      dsimp only at hU
      exact Yld.value (.pointer (some ⟨rb, 0, none⟩)) U (by kernel_rfl) (by go_simp) ⟨trivial, hU, Fx.fixed rfl rfl⟩
    refine ⟨⟨_, rfl, fun ν δ U hU h00 h1 h2 hp => ?_⟩, ?_⟩
    · simp only [putsν, Act.put, List.setIfInBounds_toArray, List.set_cons_zero, List.set_cons_succ]
      have e5 := (hp 5 (by kernel_rfl) (by kernel_rfl)).val _ rfl
      simp only [e5]
      dsimp only at hU
      exact Yld.value (.pointer (some ⟨rb, 0, none⟩)) U (by kernel_rfl) (by go_simp) ⟨trivial, hU, Fx.fixed rfl rfl⟩
    refine ⟨⟨_, rfl, fun ν δ U hU h00 h1 h2 hp => ?_⟩, ?_⟩
    · simp only [putsν, Act.put, List.setIfInBounds_toArray, List.set_cons_zero, List.set_cons_succ]
      have e6 := (hp 6 (by kernel_rfl) (by kernel_rfl)).val _ rfl
      simp only [e6]
      dsimp only at hU
      exact Yld.value (.pointer (some ⟨rb, 0, none⟩)) U (by kernel_rfl) (by go_simp) ⟨trivial, hU, Fx.fixed rfl rfl⟩
    refine ⟨⟨_, rfl, fun ν δ U hU h00 h1 h2 hp => ?_⟩, ?_⟩
    · simp only [putsν, Act.put, List.setIfInBounds_toArray, List.set_cons_zero, List.set_cons_succ]
      have e7 := (hp 7 (by kernel_rfl) (by kernel_rfl)).val _ rfl
      simp only [e7]
      dsimp only at hU
      refine Yld.call 91 #[.pointer (some ⟨rb, 0, none⟩)] (by kernel_rfl) (by go_simp) ?_
      have hcall := HN2.out U (by have hc := hU.rd; rw [h00, h1 3 (by kernel_rfl) (by kernel_rfl), h2 13 (by kernel_rfl) (by kernel_rfl)] at hc; exact hc)
      refine hcall.mono ?_
      rintro e V ⟨rfl, hc, hg⟩; exact ⟨_, rfl, trivial, by simpa [h2 13 (by kernel_rfl) (by kernel_rfl)] using hU.step hc hg, Fx.fixed rfl rfl⟩
    refine ⟨⟨_, rfl, fun ν δ U hU h00 h1 h2 hp => ?_⟩, ?_⟩
    · simp only [putsν, Act.put, List.setIfInBounds_toArray, List.set_cons_zero, List.set_cons_succ]
      have e8 := (hp 8 (by kernel_rfl) (by kernel_rfl)).val _ rfl
      simp only [e8]
      dsimp only at hU
      exact Yld.value (.int .i64 (Ix.i64 n2)) U (by kernel_rfl) (by go_simp) ⟨trivial, hU, Fx.fixed rfl rfl⟩
    refine ⟨⟨_, rfl, fun ν δ U hU h00 h1 h2 hp => ?_⟩, ?_⟩
    · simp only [putsν, Act.put, List.setIfInBounds_toArray, List.set_cons_zero, List.set_cons_succ]
      dsimp only at hU
      exact Yld.value (.pointer (some ⟨rb, 0, none⟩)) U (by kernel_rfl) (by go_simp) ⟨trivial, hU, Fx.fixed rfl rfl⟩
    refine ⟨⟨_, rfl, fun ν δ U hU h00 h1 h2 hp => ?_⟩, ?_⟩
    · simp only [putsν, Act.put, List.setIfInBounds_toArray, List.set_cons_zero, List.set_cons_succ]
      have e10 := (hp 10 (by kernel_rfl) (by kernel_rfl)).val _ rfl
      simp only [e10]
      dsimp only at hU
      exact Yld.value (.pointer (some ⟨rb, 0, none⟩)) U (by kernel_rfl) (by go_simp) ⟨trivial, hU, Fx.fixed rfl rfl⟩
    refine ⟨⟨_, rfl, fun ν δ U hU h00 h1 h2 hp => ?_⟩, ?_⟩
    · simp only [putsν, Act.put, List.setIfInBounds_toArray, List.set_cons_zero, List.set_cons_succ]
      have e11 := (hp 11 (by kernel_rfl) (by kernel_rfl)).val _ rfl
      simp only [e11]
      dsimp only at hU
      exact Yld.value (.pointer (some ⟨rb, 0, none⟩)) U (by kernel_rfl) (by go_simp) ⟨trivial, hU, Fx.fixed rfl rfl⟩
    refine ⟨⟨_, rfl, fun ν δ U hU h00 h1 h2 hp => ?_⟩, ?_⟩
    · simp only [putsν, Act.put, List.setIfInBounds_toArray, List.set_cons_zero, List.set_cons_succ]
      have e12 := (hp 12 (by kernel_rfl) (by kernel_rfl)).val _ rfl
      simp only [e12]
      dsimp only at hU
      refine Yld.call 91 #[.pointer (some ⟨rb, 0, none⟩)] (by kernel_rfl) (by go_simp) ?_
      have hcall := HN3.out U (by have hc := hU.rd; rw [h00, h1 8 (by kernel_rfl) (by kernel_rfl)] at hc; exact hc)
      refine hcall.mono ?_
      rintro e V ⟨rfl, hc, hg⟩; exact ⟨_, rfl, trivial, by simpa using hU.step hc hg, Fx.fixed rfl rfl⟩
    refine ⟨⟨_, rfl, fun ν δ U hU h00 h1 h2 hp => ?_⟩, ?_⟩
    · simp only [putsν, Act.put, List.setIfInBounds_toArray, List.set_cons_zero, List.set_cons_succ]
      have e13 := (hp 13 (by kernel_rfl) (by kernel_rfl)).val _ rfl
      simp only [e13]
      dsimp only at hU
      exact Yld.value (.int .i64 (Ix.i64 n3)) U (by kernel_rfl) (by go_simp) ⟨trivial, hU, Fx.fixed rfl rfl⟩
    refine ⟨⟨_, rfl, fun ν δ U hU h00 h1 h2 hp => ?_⟩, ?_⟩
    · simp only [putsν, Act.put, List.setIfInBounds_toArray, List.set_cons_zero, List.set_cons_succ]
      dsimp only at hU
      exact Yld.value (.pointer (some ⟨eb, 1, none⟩)) U (by kernel_rfl) (by go_simp) ⟨trivial, hU, Fx.fixed rfl rfl⟩
    refine ⟨⟨_, rfl, fun ν δ U hU h00 h1 h2 hp => ?_⟩, ?_⟩
    · simp only [putsν, Act.put, List.setIfInBounds_toArray, List.set_cons_zero, List.set_cons_succ]
      have e4 := (hp 4 (by kernel_rfl) (by kernel_rfl)).val _ rfl
      have e15 := (hp 15 (by kernel_rfl) (by kernel_rfl)).val _ rfl
      simp only [e4, e15]
      dsimp only at hU
      have x9 := cell_of_row _ _ 1 _ _ _ hU.ec
      have f9 := frozen_of_row _ _ 1 _ _ hU.ec
      simp only [List.getElem?_toArray, List.getElem?_cons_zero, List.getElem?_cons_succ] at x9
      exact Yld.store (U.setCell ⟨eb, 1, none⟩ (.int .i64 (Ix.i64 n1))) (by kernel_rfl) (by go_simp) ⟨trivial, by simpa using hU.put 1 (.int .i64 (Ix.i64 n1)), Fx.fixed rfl rfl⟩
    refine ⟨⟨_, rfl, fun ν δ U hU h00 h1 h2 hp => ?_⟩, ?_⟩
    · simp only [putsν, Act.put, List.setIfInBounds_toArray, List.set_cons_zero, List.set_cons_succ]
      dsimp only at hU
      exact Yld.value (.pointer (some ⟨eb, 2, none⟩)) U (by kernel_rfl) (by go_simp) ⟨trivial, hU, Fx.fixed rfl rfl⟩
    refine ⟨⟨_, rfl, fun ν δ U hU h00 h1 h2 hp => ?_⟩, ?_⟩
    · simp only [putsν, Act.put, List.setIfInBounds_toArray, List.set_cons_zero, List.set_cons_succ]
      have e9 := (hp 9 (by kernel_rfl) (by kernel_rfl)).val _ rfl
      have e17 := (hp 17 (by kernel_rfl) (by kernel_rfl)).val _ rfl
      simp only [e9, e17]
      dsimp only at hU
      have x9 := cell_of_row _ _ 2 _ _ _ hU.ec
      have f9 := frozen_of_row _ _ 2 _ _ hU.ec
      simp only [List.getElem?_toArray, List.getElem?_cons_zero, List.getElem?_cons_succ] at x9
      exact Yld.store (U.setCell ⟨eb, 2, none⟩ (.int .i64 (Ix.i64 n2))) (by kernel_rfl) (by go_simp) ⟨trivial, by simpa using hU.put 2 (.int .i64 (Ix.i64 n2)), Fx.fixed rfl rfl⟩
    refine ⟨⟨_, rfl, fun ν δ U hU h00 h1 h2 hp => ?_⟩, ?_⟩
    · simp only [putsν, Act.put, List.setIfInBounds_toArray, List.set_cons_zero, List.set_cons_succ]
      dsimp only at hU
      exact Yld.value (.pointer (some ⟨eb, 3, none⟩)) U (by kernel_rfl) (by go_simp) ⟨trivial, hU, Fx.fixed rfl rfl⟩
    refine ⟨⟨_, rfl, fun ν δ U hU h00 h1 h2 hp => ?_⟩, ?_⟩
    · simp only [putsν, Act.put, List.setIfInBounds_toArray, List.set_cons_zero, List.set_cons_succ]
      have e14 := (hp 14 (by kernel_rfl) (by kernel_rfl)).val _ rfl
      have e19 := (hp 19 (by kernel_rfl) (by kernel_rfl)).val _ rfl
      simp only [e14, e19]
      dsimp only at hU
      have x9 := cell_of_row _ _ 3 _ _ _ hU.ec
      have f9 := frozen_of_row _ _ 3 _ _ hU.ec
      simp only [List.getElem?_toArray, List.getElem?_cons_zero, List.getElem?_cons_succ] at x9
      exact Yld.store (U.setCell ⟨eb, 3, none⟩ (.int .i64 (Ix.i64 n3))) (by kernel_rfl) (by go_simp) ⟨trivial, by simpa using hU.put 3 (.int .i64 (Ix.i64 n3)), Fx.fixed rfl rfl⟩
    trivial
  intro ν δ w11 hS11 hd hf
  have e0 := (hf 0 (by kernel_rfl)).val _ rfl
  have e1 := (hf 1 (by kernel_rfl)).val _ rfl
  have e2 := (hf 2 (by kernel_rfl)).val _ rfl
  have e3 := (hf 3 (by kernel_rfl)).val _ rfl
  have e4 := (hf 4 (by kernel_rfl)).val _ rfl
  have e5 := (hf 5 (by kernel_rfl)).val _ rfl
  have e6 := (hf 6 (by kernel_rfl)).val _ rfl
  have e7 := (hf 7 (by kernel_rfl)).val _ rfl
  have e8 := (hf 8 (by kernel_rfl)).val _ rfl
  have e9 := (hf 9 (by kernel_rfl)).val _ rfl
  have e10 := (hf 10 (by kernel_rfl)).val _ rfl
  have e11 := (hf 11 (by kernel_rfl)).val _ rfl
  have e12 := (hf 12 (by kernel_rfl)).val _ rfl
  have e13 := (hf 13 (by kernel_rfl)).val _ rfl
  have e14 := (hf 14 (by kernel_rfl)).val _ rfl
  have e15 := (hf 15 (by kernel_rfl)).val _ rfl
  have e17 := (hf 17 (by kernel_rfl)).val _ rfl
  have e19 := (hf 19 (by kernel_rfl)).val _ rfl
  simp only [putsν, Act.put, List.setIfInBounds_toArray, List.set_cons_zero, List.set_cons_succ, e0, e1, e2, e3, e4, e5, e6, e7, e8, e9, e10, e11, e12, e13, e14, e15, e17, e19]
  clear hf e0 e1 e2 e3 e4 e5 e6 e7 e8 e9 e10 e11 e12 e13 e14 e15 e17 e19
  rw [hd 13 (by kernel_rfl), hd 16 (by kernel_rfl), hd 18 (by kernel_rfl), hd 20 (by kernel_rfl)] at hS11
  simp only [if_true] at hS11
  clear hd
  refine wpAnyT_done (by kernel_rfl) ?_ _
  refine only_mk ?_
  clear HR HN1 HN2 HN3
  obtain ⟨o0, o1, o2, o3, f0, f1, f2, f3, x0, x1, x2, x3, hr12, hfin⟩ := hS11.fin
  have HFIN := Lib.hid hfin
  have HR12 := Lib.hid hr12
  clear hS11 hr12 hfin
  go_wp2_with fail
  refine bodyPost_ret ?_ rfl ⟨A, cp, rfl, HFIN.out⟩
  exact results_cell_row rfl _ _ ob 59 _ (0, 0) _ rfl HR12.out Tryz.underlying59 rfl entry_size
end Go.Proofs.YtliobahnekohmaaGreat
