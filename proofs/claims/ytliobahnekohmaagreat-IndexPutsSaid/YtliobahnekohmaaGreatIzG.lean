import Derived.Test.YtliobahnekohmaaGreatIzE
/-
  The reader's symbols: the walk.
-/
namespace Go.Proofs.YtliobahnekohmaaGreat
open Go.RowKit
namespace Ix
theorem text_le (c : Cu) : (c.text 48).1.size ≤ 48 := by
 have h : ∀ s : ByteArray, Num.xOk 48 s = true → (Num.xV s).size ≤ 48 := fun s h => by
  unfold Num.xOk at h
  simp only [Bool.and_eq_true, decide_eq_true_eq] at h
  unfold Num.xV Num.xN
  rw [ByteArray.size_extract]
  omega
 unfold Cu.text Cu.go Num.curV
 show (if (c.bad || !Num.xOk 48 c.s) = true then ByteArray.empty else if Num.xOk 48 c.s = true then Num.xV c.s else ByteArray.empty).size ≤ 48
 split
 · decide
 · split
   · rename_i h2
     exact h _ h2
   · decide
theorem atMost_le (m : Nat) (x : Nat × Cu) : (Cu.atMost m x).1 ≤ m := by
 unfold Cu.atMost
 split
 · exact Nat.zero_le _
 · rename_i h
   rcases Nat.lt_or_ge m x.1 with h2 | h2
   · exact absurd (Or.inr h2) h
   · exact h2
theorem ext00 (a : ByteArray) : a.extract 0 0 = ByteArray.empty := by apply Crc.ba_ext; rw [Crc.extract_data']; rfl
structure SymAt (sh : Bool) (m : Nat) (c0 : Cu) (k : Nat) (S : List ByteArray) (a : ByteArray) (c : Cu) : Prop where
 le : k ≤ m
 len : S.length = k
 room : a.size ≤ 48 * k
 is_ : rdSyms sh m ByteArray.empty c0 = (S ++ (rdSyms sh (m - k) a c).1, (rdSyms sh (m - k) a c).2.1, (rdSyms sh (m - k) a c).2.2)
theorem SymAt.first (sh : Bool) (m : Nat) (c0 : Cu) : SymAt sh m c0 0 [] ByteArray.empty c0 := ⟨Nat.zero_le _, rfl, by decide, rfl⟩
def symN (sh : Bool) (a : ByteArray) (c : Cu) : Nat × Cu := if sh = true then Cu.atMost a.size c.small else (0, c)
theorem SymAt.step {sh : Bool} {m : Nat} {c0 : Cu} {k : Nat} {S : List ByteArray} {a : ByteArray} {c : Cu} (h : SymAt sh m c0 k S a c) (hk : k < m) : SymAt sh m c0 (k + 1) (S ++ [a.extract 0 (symN sh a c).1 ++ ((symN sh a c).2.text 48).1]) (a.extract 0 (symN sh a c).1 ++ ((symN sh a c).2.text 48).1) ((symN sh a c).2.text 48).2 := by
 refine ⟨hk, by simp [h.len], ?_, ?_⟩
 · have h1 := text_le (symN sh a c).2
   have h2 := h.room
   rw [ByteArray.size_append, ByteArray.size_extract]
   omega
 · have e : m - k = (m - (k + 1)) + 1 := by omega
   have hs : rdSyms sh (m - (k + 1) + 1) a c = ((a.extract 0 (symN sh a c).1 ++ ((symN sh a c).2.text 48).1) :: (rdSyms sh (m - (k + 1)) (a.extract 0 (symN sh a c).1 ++ ((symN sh a c).2.text 48).1) ((symN sh a c).2.text 48).2).1, (rdSyms sh (m - (k + 1)) (a.extract 0 (symN sh a c).1 ++ ((symN sh a c).2.text 48).1) ((symN sh a c).2.text 48).2).2.1, (rdSyms sh (m - (k + 1)) (a.extract 0 (symN sh a c).1 ++ ((symN sh a c).2.text 48).1) ((symN sh a c).2.text 48).2).2.2) := rfl
   rw [h.is_, e, hs]
   simp
theorem SymAt.stop {sh : Bool} {m : Nat} {c0 : Cu} {S : List ByteArray} {a : ByteArray} {c : Cu} (h : SymAt sh m c0 m S a c) : (rdSyms sh m ByteArray.empty c0).1 = S ∧ (rdSyms sh m ByteArray.empty c0).2.2 = c := by
 rw [h.is_, Nat.sub_self]; simp [rdSyms]
end Ix
theorem meas_lt0 {m k : Nat} (h : k < m) : m - (intOf (.int .i64 ((k : Int) + 1))).toNat < m - (intOf (.int .i64 (k : Int))).toNat := by show m - (k + 1) < m - k; omega
def tx1 (x : ByteArray) (_ _ : Nat) : Value := .string x
theorem tx1_one (x : ByteArray) (i j : Nat) : (tx1 x i j).oneCell' = true := rfl
theorem tx1_row (w : World) (x : ByteArray) (T : TypeId) : Row 1 (tx1 x) (w.alloc (.cells #[.string x] T)) (some ⟨w.heap.size, 0, none⟩) 1 := row_built 1 _ w _ _ (fun j hj => by
 obtain rfl : j = 0 := by omega
 rfl)
theorem Rdr.more {w U V : World} {rb : Nat} {c : Ix.Cu} {S : List ByteArray} {sv : Value} {la en : Int} (h : Rdr w U rb c S sv la en) {v2 : Value} {S2 : List ByteArray} (hg : U.grownBy V sv.ownBlock) (hr : V.ownsRow w.heap.size 9 1 v2 S2.length (S2.map .string)) :
 V.cell? ⟨rb, 2, none⟩ = some sv ∧ V.frozen? ⟨rb, 2, none⟩ = false ∧ Rdr w (V.setCell ⟨rb, 2, none⟩ v2) rb c S2 v2 la en := by
 have hlt : ∀ r, sv.ownBlock = some r → w.heap.size ≤ r := fun r e => (h.own.lt r e).1
 have hc : V.heap[rb]? = _ := (hg.block rb h.lt (fun e => h.apart e.symm rfl)).trans h.cur
 have hs := heap_setCell_same V rb 2 _ _ v2 hc
 have hg2 := grown_setCell V rb 2 v2
 have hb : Below w.heap.size w V := h.bel.grown hg h.bel.size (fun r e => hlt r e)
 refine ⟨(cell_of_row _ _ 2 _ _ _ hc).trans (by simp), frozen_of_row _ _ 2 _ _ hc, ⟨hs, row_kept hr hg2 (fun r e => ?_), hb.grown hg2 hb.size (fun r e => by cases e; exact h.lo), h.lo, h.room⟩⟩
 cases e
 exact block_other hr hc (by show (98 : Nat) ≠ 9; decide)
set_option maxRecDepth 100000 in
set_option maxHeartbeats 8000000 in
theorem rsyms {w U : World} {rb : Nat} {c : Ix.Cu} {la en : Int} (sh : Bool) (h : Rdr w U rb c [] (.slice none 0 0) la en) :
 Calls Tryz.prog 96 #[.pointer (some ⟨rb, 0, none⟩), .bool sh] U fun e V => ∃ sv, e = .returned (.tuple #[]) ∧ Rdr w V rb (Ix.rdSyms sh (Ix.Cu.atMost 240 c.small).1 ByteArray.empty (Ix.Cu.atMost 240 c.small).2).2.2 (Ix.rdSyms sh (Ix.Cu.atMost 240 c.small).1 ByteArray.empty (Ix.Cu.atMost 240 c.small).2).1 sv la en := by
 have HSM := Lib.hid (rsmall h)
 have HAT := Lib.hid (fun (V : World) (hv : Rdr w V rb c.small.2 [] (.slice none 0 0) la en) => ratMost hv c.small.1 240 (by omega))
 have hmle := Ix.atMost_le 240 c.small
 generalize c.small = x at *
 obtain ⟨x0, c1⟩ := x
 simp only at HSM HAT
 generalize Ix.Cu.atMost 240 (x0, c1) = y at *
 obtain ⟨m, c2⟩ := y
 simp only at HAT hmle ⊢
 have HSTOP := Lib.hid (fun S a c (h : Ix.SymAt sh m c2 m S a c) => h.stop)
 generalize Ix.rdSyms sh m ByteArray.empty c2 = res at *
 clear h
 go_enter Tryz.func96, Tryz.ntmps96
 go_wp2_with fail
 refine HSM.out.mono ?_; rintro e w1 ⟨rfl, h1, -⟩
 have HC := Lib.hid (HAT.out w1 h1)
 clear h1 HSM HAT
 go_wp2_with fail
 refine HC.out.mono ?_; rintro e w2 ⟨rfl, h1, -⟩
 have HR2 := Lib.hid h1
 clear h1 HC
 go_wp2_with fail
 go_loopw [4, 5, 12] (fun ah _ i wr => ∃ (k : Nat) (S : List ByteArray) (a : ByteArray) (c3 : Ix.Cu) (sv : Value), i = .int .i64 k ∧ ah = .string a ∧ Ix.SymAt sh m c2 k S a c3 ∧ Rdr w wr rb c3 S sv la en) (fun _ _ i _ => m - (intOf i).toNat)
 case atStart => exact ⟨0, [], ByteArray.empty, c2, _, rfl, rfl, Ix.SymAt.first sh m c2, HR2.out⟩
 case round =>
  obtain ⟨k, S, a, c3, sv, rfl, rfl, hsy, hrd⟩ := hrel
  have HSY := Lib.hid hsy; have HR3 := Lib.hid hrd
  have hroom := hsy.room
  have HLEN := Lib.hid hsy.len
  clear hsy hrd HR2
  by_cases hkm : k < m
  · have d1 : decide ((k : Int) < (m : Int)) = true := decide_eq_true (Int.ofNat_lt.2 hkm)
    have hk256 : k < 256 := by omega
    have HKM := Lib.hid hk256
    have hst := HSY.out.step hkm
    cases sh with
    | false =>
     have hn : Ix.symN false a c3 = (0, c3) := rfl
     rw [hn] at hst
     simp only [Ix.ext00, ByteArray.empty_append] at hst
     have htl := Ix.text_le c3
     have HTX := Lib.hid (fun U1 (hU : Rdr w U1 rb c3 S sv la en) => rtext hU 48 (by omega))
     generalize c3.text 48 = tt at *
     obtain ⟨t, c4⟩ := tt
     simp only at HTX hst htl
     have HST := Lib.hid hst
     clear hst hn
     have m0 : (0 : Int) ≤ (a.size : Int) := by omega
     have hcat : t.size ≤ 9223372036854775807 := by omega
     go_upto_region 6 with fail
     refine plain_robD [(0, some 23), (1, some 24), (2, some 25), (3, some 26), (4, some 27), (5, some 28), (6, some 29), (7, some 30)] [8] (fun _ _ => True) (fun δ V => Rdr w V rb (if δ 6 = true then c4 else c3) S sv la en) [(0, .string a), (1, .int .i64 0), (2, .string (a.extract 0 0)), (3, .pointer (some ⟨rb, 0, none⟩)), (4, .pointer (some ⟨rb, 0, none⟩)), (5, .pointer (some ⟨rb, 0, none⟩)), (6, .string t), (7, .string (t))] [] 1 (by kernel_rfl) (by kernel_rfl) (by kernel_rfl) (HR3.out.later (Below.refl _ _).drew) ?_ ?_ ?_
     · intro p hp; cases hp
     · refine ⟨⟨_, rfl, fun ν δ U hU h00 h1 h2 hp => ?_⟩, ?_⟩
       · simp only [putsν, Act.put, List.setIfInBounds_toArray, List.set_cons_zero, List.set_cons_succ]
         dsimp only at hU
         exact Yld.value (.string a) U (by kernel_rfl) (by go_simp) ⟨trivial, hU, Fx.fixed rfl rfl⟩
       refine ⟨⟨_, rfl, fun ν δ U hU h00 h1 h2 hp => ?_⟩, ?_⟩
       · simp only [putsν, Act.put, List.setIfInBounds_toArray, List.set_cons_zero, List.set_cons_succ]
         dsimp only at hU
         exact Yld.value (.int .i64 0) U (by kernel_rfl) (by go_simp) ⟨trivial, hU, Fx.fixed rfl rfl⟩
       refine ⟨⟨_, rfl, fun ν δ U hU h00 h1 h2 hp => ?_⟩, ?_⟩
       · simp only [putsν, Act.put, List.setIfInBounds_toArray, List.set_cons_zero, List.set_cons_succ]
         have e0 := (hp 0 (by kernel_rfl) (by kernel_rfl)).val _ rfl
         have e1 := (hp 1 (by kernel_rfl) (by kernel_rfl)).val _ rfl
         simp only [e0, e1]
         dsimp only at hU
         exact Yld.value (.string (a.extract 0 0)) U (by kernel_rfl) (by go_simp) ⟨trivial, hU, Fx.fixed rfl rfl⟩
       refine ⟨⟨_, rfl, fun ν δ U hU h00 h1 h2 hp => ?_⟩, ?_⟩
       · simp only [putsν, Act.put, List.setIfInBounds_toArray, List.set_cons_zero, List.set_cons_succ]
         dsimp only at hU
         exact Yld.value (.pointer (some ⟨rb, 0, none⟩)) U (by kernel_rfl) (by go_simp) ⟨trivial, hU, Fx.fixed rfl rfl⟩
       refine ⟨⟨_, rfl, fun ν δ U hU h00 h1 h2 hp => ?_⟩, ?_⟩
       · simp only [putsν, Act.put, List.setIfInBounds_toArray, List.set_cons_zero, List.set_cons_succ]
         have e3 := (hp 3 (by kernel_rfl) (by kernel_rfl)).val _ rfl
         simp only [e3]
         dsimp only at hU
         exact Yld.value (.pointer (some ⟨rb, 0, none⟩)) U (by kernel_rfl) (by go_simp) ⟨trivial, hU, Fx.fixed rfl rfl⟩
       refine ⟨⟨_, rfl, fun ν δ U hU h00 h1 h2 hp => ?_⟩, ?_⟩
       · simp only [putsν, Act.put, List.setIfInBounds_toArray, List.set_cons_zero, List.set_cons_succ]
         have e4 := (hp 4 (by kernel_rfl) (by kernel_rfl)).val _ rfl
         simp only [e4]
         dsimp only at hU
         exact Yld.value (.pointer (some ⟨rb, 0, none⟩)) U (by kernel_rfl) (by go_simp) ⟨trivial, hU, Fx.fixed rfl rfl⟩
       refine ⟨⟨_, rfl, fun ν δ U hU h00 h1 h2 hp => ?_⟩, ?_⟩
       · simp only [putsν, Act.put, List.setIfInBounds_toArray, List.set_cons_zero, List.set_cons_succ]
         have e5 := (hp 5 (by kernel_rfl) (by kernel_rfl)).val _ rfl
         simp only [e5]
         dsimp only at hU
         refine Yld.call 131 #[.pointer (some ⟨rb, 0, none⟩), .int .i64 48] (by kernel_rfl) (by go_simp) ?_
         have hcall := HTX.out U (by have hc := hU; rw [h00] at hc; exact hc)
         refine hcall.mono ?_
         rintro e V ⟨rfl, hc, hg⟩; exact ⟨_, rfl, trivial, by simpa using hc, Fx.fixed rfl rfl⟩
       refine ⟨⟨_, rfl, fun ν δ U hU h00 h1 h2 hp => ?_⟩, ?_⟩
       · simp only [putsν, Act.put, List.setIfInBounds_toArray, List.set_cons_zero, List.set_cons_succ]
         have e2 := (hp 2 (by kernel_rfl) (by kernel_rfl)).val _ rfl
         have e6 := (hp 6 (by kernel_rfl) (by kernel_rfl)).val _ rfl
         simp only [e2, e6]
         dsimp only at hU
         exact Yld.value (.string (t)) U (by kernel_rfl) (by go_simp) ⟨trivial, hU, Fx.fixed rfl rfl⟩
       trivial
     intro ν δ w5 hS5 hd hf
     have e0 := (hf 0 (by kernel_rfl)).val _ rfl
     have e1 := (hf 1 (by kernel_rfl)).val _ rfl
     have e2 := (hf 2 (by kernel_rfl)).val _ rfl
     have e3 := (hf 3 (by kernel_rfl)).val _ rfl
     have e4 := (hf 4 (by kernel_rfl)).val _ rfl
     have e5 := (hf 5 (by kernel_rfl)).val _ rfl
     have e6 := (hf 6 (by kernel_rfl)).val _ rfl
     have e7 := (hf 7 (by kernel_rfl)).val _ rfl
     simp only [putsν, Act.put, List.setIfInBounds_toArray, List.set_cons_zero, List.set_cons_succ, e0, e1, e2, e3, e4, e5, e6, e7]
     clear hf e0 e1 e2 e3 e4 e5 e6 e7
     rw [hd 6 (by kernel_rfl)] at hS5
     simp only [if_true] at hS5
     clear hd
     refine wpAnyT_one (i := 8) (by kernel_rfl) rfl (by kernel_rfl) ?_
     intro K0 hK
     unfold Oper.wp
     go_simp
     refine hK _ _ (fun _ => trivial) ?_
     clear hK K0
     refine wpAnyT_done (by kernel_rfl) ?_ _
     refine only_mk ?_
     generalize t = a2 at *
     obtain ⟨A5, k5, hsv5, -⟩ := hS5.slice
     subst hsv5
     have x2 := hS5.cells.2.2.1
     have HR5 := Lib.hid hS5
     have hb6 : Below w5.heap.size w5 (w5.alloc (.cells #[.string a2] 9)) := (Below.refl _ _).alloc (Nat.le_refl _) _
     have HR6 := Lib.hid (hS5.later hb6)
     have HROW := Lib.hid (tx1_row w5 a2 9)
     have hbb : w.heap.size ≤ (w5.alloc (.cells #[.string a2] 9)).heap.size := HR6.out.bel.size
     have HBB := Lib.hid hbb
     have HNX : Hid (∀ v8 w8, w8.ownsRow w.heap.size 9 1 v8 (S.length + 1) (S.map .string ++ [.string a2]) → (w5.alloc (.cells #[.string a2] 9)).grownBy w8 (Value.slice A5 S.length k5).ownBlock → ∃ A8 k8, v8 = .slice A8 (S.length + 1) k8 ∧ w8.cell? ⟨rb, 2, none⟩ = some (.slice A5 S.length k5) ∧ w8.frozen? ⟨rb, 2, none⟩ = false ∧ Rdr w (w8.setCell ⟨rb, 2, none⟩ v8) rb c4 (S ++ [a2]) v8 la en) := Lib.hid (fun v8 w8 ho hg => by
      have h := HR6.out.more (v2 := v8) (S2 := S ++ [a2]) hg (by rw [List.length_append, List.map_append]; exact ho)
      obtain ⟨A8, k8, e8, -⟩ := h.2.2.slice
      rw [List.length_append] at e8
      exact ⟨A8, k8, e8, h⟩)
     clear hS5 hb6 hbb HR3 HTX HR5
     go_wp2_with (at_builtin; go_must (refine wpList_append_row _ rfl _ _ 40 9 rfl 1 16 (.string ByteArray.empty) Tryz.underlying40 infoT rfl (by decide) (by decide) w.heap.size _ S.length (S.map .string) rfl HR6.out.own ⟨w5.heap.size, 0, none⟩ 1 1 (tx1 a2) (tx1_one a2) rfl HROW.out (by have := HKM.out; have := HLEN.out; omega) HBB.out ?_); intro v8 w8 hown8 hg8; obtain ⟨A8, k8, rfl, z0, z1, hfin⟩ := HNX.out v8 w8 hown8 hg8; have HFIN := Lib.hid hfin; clear hown8 hg8 hfin)
     go_roundw
     case rel => exact ⟨k + 1, _, _, c4, _, rfl, rfl, HST.out, HFIN.out⟩
     case measure => exact meas_lt0 hkm
    | true =>
     have hn : Ix.symN true a c3 = Ix.Cu.atMost a.size c3.small := rfl
     rw [hn] at hst
     have HS1 := Lib.hid (rsmall HR3.out)
     have HA1 := Lib.hid (fun (V : World) (hv : Rdr w V rb c3.small.2 S sv la en) => ratMost hv c3.small.1 a.size (by omega))
     have hle := Ix.atMost_le a.size c3.small
     generalize c3.small = y0 at *
     obtain ⟨y1, c5⟩ := y0
     simp only at HS1 HA1
     generalize Ix.Cu.atMost a.size (y1, c5) = y2 at *
     obtain ⟨n, c6⟩ := y2
     simp only at HA1 hle hst
     have htl := Ix.text_le c6
     have HTX := Lib.hid (fun U1 (hU : Rdr w U1 rb c6 S sv la en) => rtext hU 48 (by omega))
     generalize c6.text 48 = tt at *
     obtain ⟨t, c4⟩ := tt
     simp only at HTX hst htl
     have HST := Lib.hid hst
     clear hst hn
     have m0 : (0 : Int) ≤ (n : Int) := by omega
     have m1 : (n : Int) ≤ (a.size : Int) := by omega
     have hcat : n + t.size ≤ 9223372036854775807 := by omega
     go_wp2_with fail
     refine HS1.out.mono ?_; rintro e w3 ⟨rfl, h1, -⟩
     have HC := Lib.hid (HA1.out w3 h1)
     clear h1 HS1 HA1 HR3
     go_wp2_with fail
     refine HC.out.mono ?_; rintro e w4 ⟨rfl, h1, -⟩
     have HR3 := Lib.hid h1
     clear h1 HC
     generalize c6 = c3 at *
     go_upto_region 6 with fail
     refine plain_robD [(0, some 23), (1, some 24), (2, some 25), (3, some 26), (4, some 27), (5, some 28), (6, some 29), (7, some 30)] [8] (fun _ _ => True) (fun δ V => Rdr w V rb (if δ 6 = true then c4 else c3) S sv la en) [(0, .string a), (1, .int .i64 (n : Int)), (2, .string (a.extract 0 n)), (3, .pointer (some ⟨rb, 0, none⟩)), (4, .pointer (some ⟨rb, 0, none⟩)), (5, .pointer (some ⟨rb, 0, none⟩)), (6, .string t), (7, .string (a.extract 0 n ++ t))] [] 1 (by kernel_rfl) (by kernel_rfl) (by kernel_rfl) (HR3.out.later (Below.refl _ _).drew) ?_ ?_ ?_
     · intro p hp; cases hp
     · refine ⟨⟨_, rfl, fun ν δ U hU h00 h1 h2 hp => ?_⟩, ?_⟩
       · simp only [putsν, Act.put, List.setIfInBounds_toArray, List.set_cons_zero, List.set_cons_succ]
         dsimp only at hU
         exact Yld.value (.string a) U (by kernel_rfl) (by go_simp) ⟨trivial, hU, Fx.fixed rfl rfl⟩
       refine ⟨⟨_, rfl, fun ν δ U hU h00 h1 h2 hp => ?_⟩, ?_⟩
       · simp only [putsν, Act.put, List.setIfInBounds_toArray, List.set_cons_zero, List.set_cons_succ]
         dsimp only at hU
         exact Yld.value (.int .i64 (n : Int)) U (by kernel_rfl) (by go_simp) ⟨trivial, hU, Fx.fixed rfl rfl⟩
       refine ⟨⟨_, rfl, fun ν δ U hU h00 h1 h2 hp => ?_⟩, ?_⟩
       · simp only [putsν, Act.put, List.setIfInBounds_toArray, List.set_cons_zero, List.set_cons_succ]
         have e0 := (hp 0 (by kernel_rfl) (by kernel_rfl)).val _ rfl
         have e1 := (hp 1 (by kernel_rfl) (by kernel_rfl)).val _ rfl
         simp only [e0, e1]
         dsimp only at hU
         exact Yld.value (.string (a.extract 0 n)) U (by kernel_rfl) (by go_simp) ⟨trivial, hU, Fx.fixed rfl rfl⟩
       refine ⟨⟨_, rfl, fun ν δ U hU h00 h1 h2 hp => ?_⟩, ?_⟩
       · simp only [putsν, Act.put, List.setIfInBounds_toArray, List.set_cons_zero, List.set_cons_succ]
         dsimp only at hU
         exact Yld.value (.pointer (some ⟨rb, 0, none⟩)) U (by kernel_rfl) (by go_simp) ⟨trivial, hU, Fx.fixed rfl rfl⟩
       refine ⟨⟨_, rfl, fun ν δ U hU h00 h1 h2 hp => ?_⟩, ?_⟩
       · simp only [putsν, Act.put, List.setIfInBounds_toArray, List.set_cons_zero, List.set_cons_succ]
         have e3 := (hp 3 (by kernel_rfl) (by kernel_rfl)).val _ rfl
         simp only [e3]
         dsimp only at hU
         exact Yld.value (.pointer (some ⟨rb, 0, none⟩)) U (by kernel_rfl) (by go_simp) ⟨trivial, hU, Fx.fixed rfl rfl⟩
       refine ⟨⟨_, rfl, fun ν δ U hU h00 h1 h2 hp => ?_⟩, ?_⟩
       · simp only [putsν, Act.put, List.setIfInBounds_toArray, List.set_cons_zero, List.set_cons_succ]
         have e4 := (hp 4 (by kernel_rfl) (by kernel_rfl)).val _ rfl
         simp only [e4]
         dsimp only at hU
         exact Yld.value (.pointer (some ⟨rb, 0, none⟩)) U (by kernel_rfl) (by go_simp) ⟨trivial, hU, Fx.fixed rfl rfl⟩
       refine ⟨⟨_, rfl, fun ν δ U hU h00 h1 h2 hp => ?_⟩, ?_⟩
       · simp only [putsν, Act.put, List.setIfInBounds_toArray, List.set_cons_zero, List.set_cons_succ]
         have e5 := (hp 5 (by kernel_rfl) (by kernel_rfl)).val _ rfl
         simp only [e5]
         dsimp only at hU
         refine Yld.call 131 #[.pointer (some ⟨rb, 0, none⟩), .int .i64 48] (by kernel_rfl) (by go_simp) ?_
         have hcall := HTX.out U (by have hc := hU; rw [h00] at hc; exact hc)
         refine hcall.mono ?_
         rintro e V ⟨rfl, hc, hg⟩; exact ⟨_, rfl, trivial, by simpa using hc, Fx.fixed rfl rfl⟩
       refine ⟨⟨_, rfl, fun ν δ U hU h00 h1 h2 hp => ?_⟩, ?_⟩
       · simp only [putsν, Act.put, List.setIfInBounds_toArray, List.set_cons_zero, List.set_cons_succ]
         have e2 := (hp 2 (by kernel_rfl) (by kernel_rfl)).val _ rfl
         have e6 := (hp 6 (by kernel_rfl) (by kernel_rfl)).val _ rfl
         simp only [e2, e6]
         dsimp only at hU
         exact Yld.value (.string (a.extract 0 n ++ t)) U (by kernel_rfl) (by go_simp) ⟨trivial, hU, Fx.fixed rfl rfl⟩
       trivial
     intro ν δ w5 hS5 hd hf
     have e0 := (hf 0 (by kernel_rfl)).val _ rfl
     have e1 := (hf 1 (by kernel_rfl)).val _ rfl
     have e2 := (hf 2 (by kernel_rfl)).val _ rfl
     have e3 := (hf 3 (by kernel_rfl)).val _ rfl
     have e4 := (hf 4 (by kernel_rfl)).val _ rfl
     have e5 := (hf 5 (by kernel_rfl)).val _ rfl
     have e6 := (hf 6 (by kernel_rfl)).val _ rfl
     have e7 := (hf 7 (by kernel_rfl)).val _ rfl
     simp only [putsν, Act.put, List.setIfInBounds_toArray, List.set_cons_zero, List.set_cons_succ, e0, e1, e2, e3, e4, e5, e6, e7]
     clear hf e0 e1 e2 e3 e4 e5 e6 e7
     rw [hd 6 (by kernel_rfl)] at hS5
     simp only [if_true] at hS5
     clear hd
     refine wpAnyT_one (i := 8) (by kernel_rfl) rfl (by kernel_rfl) ?_
     intro K0 hK
     unfold Oper.wp
     go_simp
     refine hK _ _ (fun _ => trivial) ?_
     clear hK K0
     refine wpAnyT_done (by kernel_rfl) ?_ _
     refine only_mk ?_
     generalize a.extract 0 n ++ t = a2 at *
     obtain ⟨A5, k5, hsv5, -⟩ := hS5.slice
     subst hsv5
     have x2 := hS5.cells.2.2.1
     have HR5 := Lib.hid hS5
     have hb6 : Below w5.heap.size w5 (w5.alloc (.cells #[.string a2] 9)) := (Below.refl _ _).alloc (Nat.le_refl _) _
     have HR6 := Lib.hid (hS5.later hb6)
     have HROW := Lib.hid (tx1_row w5 a2 9)
     have hbb : w.heap.size ≤ (w5.alloc (.cells #[.string a2] 9)).heap.size := HR6.out.bel.size
     have HBB := Lib.hid hbb
     have HNX : Hid (∀ v8 w8, w8.ownsRow w.heap.size 9 1 v8 (S.length + 1) (S.map .string ++ [.string a2]) → (w5.alloc (.cells #[.string a2] 9)).grownBy w8 (Value.slice A5 S.length k5).ownBlock → ∃ A8 k8, v8 = .slice A8 (S.length + 1) k8 ∧ w8.cell? ⟨rb, 2, none⟩ = some (.slice A5 S.length k5) ∧ w8.frozen? ⟨rb, 2, none⟩ = false ∧ Rdr w (w8.setCell ⟨rb, 2, none⟩ v8) rb c4 (S ++ [a2]) v8 la en) := Lib.hid (fun v8 w8 ho hg => by
      have h := HR6.out.more (v2 := v8) (S2 := S ++ [a2]) hg (by rw [List.length_append, List.map_append]; exact ho)
      obtain ⟨A8, k8, e8, -⟩ := h.2.2.slice
      rw [List.length_append] at e8
      exact ⟨A8, k8, e8, h⟩)
     clear hS5 hb6 hbb HR3 HTX HR5
     go_wp2_with (at_builtin; go_must (refine wpList_append_row _ rfl _ _ 40 9 rfl 1 16 (.string ByteArray.empty) Tryz.underlying40 infoT rfl (by decide) (by decide) w.heap.size _ S.length (S.map .string) rfl HR6.out.own ⟨w5.heap.size, 0, none⟩ 1 1 (tx1 a2) (tx1_one a2) rfl HROW.out (by have := HKM.out; have := HLEN.out; omega) HBB.out ?_); intro v8 w8 hown8 hg8; obtain ⟨A8, k8, rfl, z0, z1, hfin⟩ := HNX.out v8 w8 hown8 hg8; have HFIN := Lib.hid hfin; clear hown8 hg8 hfin)
     go_roundw
     case rel => exact ⟨k + 1, _, _, c4, _, rfl, rfl, HST.out, HFIN.out⟩
     case measure => exact meas_lt0 hkm
  · obtain rfl : k = m := Nat.le_antisymm HSY.out.le (Nat.le_of_not_lt hkm)
    have d1 : decide ((k : Int) < (k : Int)) = false := decide_eq_false (Int.lt_irrefl _)
    obtain ⟨e1, e2⟩ := HSTOP.out S a c3 HSY.out
    have HE1 := Lib.hid e1; have HE2 := Lib.hid e2
    clear e1 e2
    go_wp2_with fail
    go_end0
    exact ⟨_, rfl, by rw [HE1.out, HE2.out]; exact HR3.out⟩
end Go.Proofs.YtliobahnekohmaaGreat
/-
  The reader's entries: what is read, and how far.
-/
namespace Go.Proofs.YtliobahnekohmaaGreat
open Go.RowKit
namespace Ix
def one (g : Int) (S : List ByteArray) (la en : Int) (c : Cu) : Ent × Int × Int × Cu :=
 if g = 1 then ((rd1 c).1, la, en, (rd1 c).2) else if g = 2 then ((rd2 S c).1, la, en, (rd2 S c).2) else rd3 S la en c
def rdA (g : Int) (S : List ByteArray) : Nat → Int → Int → Cu → List Ent × Cu
 | 0, _, _, c => ([], c)
 | k + 1, la, en, c => ((one g S la en c).1 :: (rdA g S k (one g S la en c).2.1 (one g S la en c).2.2.1 (one g S la en c).2.2.2).1, (rdA g S k (one g S la en c).2.1 (one g S la en c).2.2.1 (one g S la en c).2.2.2).2)
theorem rdA1 (S : List ByteArray) : ∀ (k : Nat) (la en : Int) (c : Cu), rdA 1 S k la en c = rdE rd1 k c
 | 0, _, _, _ => rfl
 | k + 1, la, en, c => by
  unfold rdA rdE
  have e : one 1 S la en c = ((rd1 c).1, la, en, (rd1 c).2) := rfl
  rw [e, rdA1 S k]
theorem rdA2 (S : List ByteArray) : ∀ (k : Nat) (la en : Int) (c : Cu), rdA 2 S k la en c = rdE (rd2 S) k c
 | 0, _, _, _ => rfl
 | k + 1, la, en, c => by
  unfold rdA rdE
  have e : one 2 S la en c = ((rd2 S c).1, la, en, (rd2 S c).2) := rfl
  rw [e, rdA2 S k]
theorem rdA3 (S : List ByteArray) : ∀ (k : Nat) (la en : Int) (c : Cu), rdA 3 S k la en c = rdE3 S k la en c
 | 0, _, _, _ => rfl
 | k + 1, la, en, c => by
  unfold rdA rdE3
  have e : one 3 S la en c = rd3 S la en c := rfl
  rw [e, rdA3 S k]
structure EntAt (g : Int) (S : List ByteArray) (m : Nat) (c0 : Cu) (k : Nat) (L : List Ent) (la en : Int) (c : Cu) : Prop where
 le : k ≤ m
 len : L.length = k
 is_ : rdA g S m 0 0 c0 = (L ++ (rdA g S (m - k) la en c).1, (rdA g S (m - k) la en c).2)
theorem EntAt.first (g : Int) (S : List ByteArray) (m : Nat) (c0 : Cu) : EntAt g S m c0 0 [] 0 0 c0 := ⟨Nat.zero_le _, rfl, rfl⟩
theorem EntAt.step {g : Int} {S : List ByteArray} {m : Nat} {c0 : Cu} {k : Nat} {L : List Ent} {la en : Int} {c : Cu} (h : EntAt g S m c0 k L la en c) (hk : k < m) : EntAt g S m c0 (k + 1) (L ++ [(one g S la en c).1]) (one g S la en c).2.1 (one g S la en c).2.2.1 (one g S la en c).2.2.2 := by
 refine ⟨hk, by simp [h.len], ?_⟩
 have e : m - k = (m - (k + 1)) + 1 := by omega
 have hs : ∀ j, rdA g S (j + 1) la en c = ((one g S la en c).1 :: (rdA g S j (one g S la en c).2.1 (one g S la en c).2.2.1 (one g S la en c).2.2.2).1, (rdA g S j (one g S la en c).2.1 (one g S la en c).2.2.1 (one g S la en c).2.2.2).2) := fun j => rfl
 rw [h.is_, e, hs]
 simp
theorem EntAt.stop {g : Int} {S : List ByteArray} {m : Nat} {c0 : Cu} {L : List Ent} {la en : Int} {c : Cu} (h : EntAt g S m c0 m L la en c) : rdA g S m 0 0 c0 = (L, c) := by
 rw [h.is_, Nat.sub_self]; simp [rdA]
structure Tiny (e : Ent) : Prop where
 few : e.l.length ≤ 255
 size : ∀ x ∈ e.l, x.1.size ≤ 20000 ∧ x.2.size ≤ 20000
 last : -9223372036854775808 ≤ e.last ∧ e.last ≤ 9223372036854775807
 off : -9223372036854775808 ≤ e.off ∧ e.off ≤ 9223372036854775807
 len : -9223372036854775808 ≤ e.len ∧ e.len ≤ 9223372036854775807
theorem wrap_in (n : Int) : -9223372036854775808 ≤ IntKind.i64.wrap n ∧ IntKind.i64.wrap n ≤ 9223372036854775807 := by rw [IntKind.wrap_i64]; omega
theorem i64_in (n : Nat) : -9223372036854775808 ≤ i64 n ∧ i64 n ≤ 9223372036854775807 := wrap_in _
theorem fixed_le (c : Cu) : (c.fixed 12).1.size ≤ 12 := by
 have h : ∀ s : ByteArray, (Num.fT 12 s).size ≤ 12 := fun s => by
  unfold Num.fT
  split
  · rename_i h
    unfold Num.fV
    rw [ByteArray.size_extract]
    omega
  · decide
 unfold Cu.fixed Cu.go Num.curV
 show (if (c.bad || !Num.fAll 12 c.s) = true then ByteArray.empty else Num.fT 12 c.s).size ≤ 12
 split
 · decide
 · exact h _
theorem rdFix_small : ∀ (k : Nat) (c : Cu), (rdFix k c).1.length ≤ k ∧ ∀ x ∈ (rdFix k c).1, x.1.size ≤ 12 ∧ x.2.size ≤ 12
 | 0, _ => ⟨Nat.le_refl _, fun x hx => by cases hx⟩
 | k + 1, c => by
  by_cases hb : c.bad = true
  · rw [rdFix_bad hb]; exact ⟨Nat.zero_le _, fun x hx => by cases hx⟩
  · rw [rdFix_go (by simpa using hb)]
    obtain ⟨h1, h2⟩ := rdFix_small k ((c.fixed 12).2.fixed 12).2
    refine ⟨by rw [List.length_cons]; omega, fun x hx => ?_⟩
    rcases List.mem_cons.1 hx with rfl | hx
    · exact ⟨fixed_le _, fixed_le _⟩
    · exact h2 x hx
theorem b0_le (s : ByteArray) : b0 s ≤ 255 := by
 unfold b0
 have := (s.data.toList.getD 0 0).toNat_lt
 omega
theorem rdSym_size {S : List ByteArray} (hS : ∀ x ∈ S, x.size ≤ 20000) (c : Cu) : (rdSym S c).1.size ≤ 20000 := by
 unfold rdSym
 split
 · show (ByteArray.empty).size ≤ 20000; decide
 · rename_i h
   have h2 : c.small.1 < S.length := by
    rcases Nat.lt_or_ge c.small.1 S.length with h2 | h2
    · exact h2
    · exact absurd (Or.inr h2) h
   rw [List.getD_eq_getElem?_getD, List.getElem?_eq_getElem h2]
   exact hS _ (List.getElem_mem h2)
theorem rdLabs_size {S : List ByteArray} (hS : ∀ x ∈ S, x.size ≤ 20000) : ∀ (k : Nat) (c : Cu), ∀ x ∈ (rdLabs S k c).1, x.1.size ≤ 20000 ∧ x.2.size ≤ 20000
 | 0, _, x, hx => by cases hx
 | k + 1, c, x, hx => by
  unfold rdLabs at hx
  rcases List.mem_cons.1 hx with rfl | hx
  · exact ⟨rdSym_size hS _, rdSym_size hS _⟩
  · exact rdLabs_size hS k _ x hx
theorem labels_small {S : List ByteArray} (hS : ∀ x ∈ S, x.size ≤ 20000) (c : Cu) : (labels S c).1.length ≤ 255 ∧ ∀ x ∈ (labels S c).1, x.1.size ≤ 20000 ∧ x.2.size ≤ 20000 := by
 unfold labels
 have := atMost_le 6 c.small
 exact ⟨by rw [rdLabs_length]; omega, rdLabs_size hS _ _⟩
theorem one_tiny {S : List ByteArray} (hS : ∀ x ∈ S, x.size ≤ 20000) (g la en : Int) (c : Cu) : Tiny (one g S la en c).1 := by
 unfold one
 split
 · obtain ⟨h1, h2⟩ := rdFix_small (b0 (c.take 1).1) (c.take 1).2
   have h3 := b0_le (c.take 1).1
   exact ⟨by show (rdFix _ _).1.length ≤ 255; omega, fun x hx => by have := h2 x hx; omega, i64_in _, i64_in _, i64_in _⟩
 · split
   · obtain ⟨h1, h2⟩ := labels_small hS c
     exact ⟨h1, h2, i64_in _, i64_in _, i64_in _⟩
   · obtain ⟨h1, h2⟩ := labels_small hS c
     exact ⟨h1, h2, wrap_in _, wrap_in _, i64_in _⟩
theorem rdSyms_small (sh : Bool) : ∀ (k : Nat) (a : ByteArray) (c : Cu) (n : Nat), a.size ≤ n → (rdSyms sh k a c).1.length = k ∧ ∀ x ∈ (rdSyms sh k a c).1, x.size ≤ n + 48 * k
 | 0, _, _, _, _ => ⟨rfl, fun x hx => by cases hx⟩
 | k + 1, a, c, n, h => by
  have hs : rdSyms sh (k + 1) a c = ((a.extract 0 (symN sh a c).1 ++ ((symN sh a c).2.text 48).1) :: (rdSyms sh k (a.extract 0 (symN sh a c).1 ++ ((symN sh a c).2.text 48).1) ((symN sh a c).2.text 48).2).1, (rdSyms sh k (a.extract 0 (symN sh a c).1 ++ ((symN sh a c).2.text 48).1) ((symN sh a c).2.text 48).2).2.1, (rdSyms sh k (a.extract 0 (symN sh a c).1 ++ ((symN sh a c).2.text 48).1) ((symN sh a c).2.text 48).2).2.2) := rfl
  have h1 := text_le (symN sh a c).2
  have h2 : (a.extract 0 (symN sh a c).1 ++ ((symN sh a c).2.text 48).1).size ≤ n + 48 := by rw [ByteArray.size_append, ByteArray.size_extract]; omega
  obtain ⟨h3, h4⟩ := rdSyms_small sh k _ ((symN sh a c).2.text 48).2 (n + 48) h2
  rw [hs]
  refine ⟨by simp [h3], fun x hx => ?_⟩
  rcases List.mem_cons.1 hx with rfl | hx
  · omega
  · have := h4 x hx; omega
def symsOf (g : Int) (c : Cu) : List ByteArray := if g = 1 then [] else (rdSyms (decide (g = 3)) (Cu.atMost 240 c.small).1 ByteArray.empty (Cu.atMost 240 c.small).2).1
def cuOf (g : Int) (c : Cu) : Cu := if g = 1 then c else (rdSyms (decide (g = 3)) (Cu.atMost 240 c.small).1 ByteArray.empty (Cu.atMost 240 c.small).2).2.2
def cntOf (g : Int) (c : Cu) : Nat × Cu := if g = 1 then Cu.atMost 20 (cuOf g c).wide else Cu.atMost 20 (cuOf g c).small
theorem symsOf_small (g : Int) (c : Cu) : (symsOf g c).length ≤ 1000 ∧ ∀ x ∈ symsOf g c, x.size ≤ 20000 := by
 unfold symsOf
 split
 · exact ⟨Nat.zero_le _, fun x hx => by cases hx⟩
 · have h := atMost_le 240 c.small
   obtain ⟨h1, h2⟩ := rdSyms_small (decide (g = 3)) (Cu.atMost 240 c.small).1 ByteArray.empty (Cu.atMost 240 c.small).2 0 (by decide)
   exact ⟨by omega, fun x hx => by have := h2 x hx; omega⟩
theorem rd_is {g : Int} (hg : 1 ≤ g ∧ g ≤ 3) (c : Cu) : rd g c = rdA g (symsOf g c) (cntOf g c).1 0 0 (cntOf g c).2 := by
 rcases (show g = 1 ∨ g = 2 ∨ g = 3 by omega) with rfl | rfl | rfl
 · rw [rdA1]; rfl
 · rw [rdA2]; rfl
 · rw [rdA3]; rfl
end Ix
structure Es (w U : World) (rb : Nat) (c : Ix.Cu) (S : List ByteArray) (sv : Value) (la en : Int) (v : Value) (k : Nat) (q : Nat → EAt) : Prop where
 rd : Rdr w U rb c S sv la en
 own : U.ownsRow w.heap.size 59 4 v k (rcells 4 (ex q) k)
 labs : ∀ i, i < k → LRow U (q i).A (q i).e.l
section
variable {w U V : World} {rb : Nat} {c d : Ix.Cu} {S : List ByteArray} {sv v : Value} {la en la2 en2 : Int} {k : Nat} {q : Nat → EAt}
theorem LRow.kept {B : Option Addr} {l : List Lab} (h : LRow U B l) {row : Option Nat} (hg : U.grownBy V row) (hr : ∀ r, row = some r → ∃ cs T fr, U.heap[r]? = some (.cells cs T fr) ∧ T ≠ 37) : LRow V B l := by
 by_cases hl : 0 < l.length
 · refine h.block hg.size fun ad e o ho => ?_
   obtain ⟨cs, fr, hcs⟩ := h.typ hl ad e
   refine (hg.block ad.block (Array.getElem?_eq_some_iff.1 ho).1 (fun e2 => ?_)).trans ho
   obtain ⟨cs2, T, fr2, h2, hne⟩ := hr _ e2.symm
   rw [hcs] at h2
   cases h2
   exact hne rfl
 · exact ⟨fun h0 => absurd h0 hl, fun h0 => absurd h0 hl⟩
theorem Es.step (h : Es w U rb c S sv la en v k q) (hr : Rdr w V rb d S sv la2 en2) (hg : U.grownBy V (some rb)) : Es w V rb d S sv la2 en2 v k q := by
 have hc : U.heap[rb]? = _ := h.rd.cur
 refine ⟨hr, row_kept h.own hg (fun r e => ?_), fun i hi => (h.labs i hi).kept hg (fun r e => ?_)⟩
 · cases e; exact block_other h.own hc (by show (98 : Nat) ≠ 59; decide)
 · cases e; exact ⟨_, _, _, hc, by show (98 : Nat) ≠ 37; decide⟩
theorem Es.later (h : Es w U rb c S sv la en v k q) (hb : Below U.heap.size U V) : Es w V rb c S sv la en v k q :=
 ⟨h.rd.later hb, row_far h.own hb, fun i hi => (h.labs i hi).later hb⟩
def plus (q : Nat → EAt) (k : Nat) (x : EAt) (i : Nat) : EAt := if i = k then x else q i
theorem plus_old {q : Nat → EAt} {k : Nat} {x : EAt} {i : Nat} (h : i < k) : plus q k x i = q i := if_neg (by omega)
theorem plus_new {q : Nat → EAt} {k : Nat} {x : EAt} : plus q k x k = x := if_pos rfl
theorem entL_congr {q p : Nat → EAt} : ∀ {n : Nat}, (∀ i, i < n → q i = p i) → entL q n = entL p n
 | 0, _ => rfl
 | n + 1, h => by rw [entL_succ, entL_succ, entL_congr (fun i hi => h i (by omega)), h n (by omega)]
theorem entL_plus (q : Nat → EAt) (k : Nat) (x : EAt) : entL (plus q k x) (k + 1) = entL q k ++ [x.e] := by
 rw [entL_succ, plus_new, entL_congr (fun i hi => plus_old hi)]
theorem rcells_plus (q : Nat → EAt) (k : Nat) (x : EAt) : rcells 4 (ex (plus q k x)) (k + 1) = rcells 4 (ex q) k ++ rcells 4 (ex fun _ => x) 1 := by
 have h : ∀ n, n ≤ k → rcells 4 (ex (plus q k x)) n = rcells 4 (ex q) n := by
  intro n
  induction n with
  | zero => intro _; rfl
  | succ n ih =>
   intro hn
   rw [rcells_succ, rcells_succ, ih (by omega)]
   congr 1
   have e : plus q k x n = q n := plus_old hn
   show [0, 1, 2, 3].map (ex (plus q k x) n) = [0, 1, 2, 3].map (ex q n)
   simp only [List.map_cons, List.map_nil, ex, e]
 rw [rcells_succ, h k (Nat.le_refl k)]
 congr 1
 show [0, 1, 2, 3].map (ex (plus q k x) k) = [0, 1, 2, 3].map (ex (fun _ => x) 0)
 simp only [List.map_cons, List.map_nil, ex, plus_new]
theorem Es.more (h : Es w U rb c S sv la en v k q) {x : EAt} (hx : LRow U x.A x.e.l) {v2 : Value} (hg : U.grownBy V v.ownBlock) (hr : V.ownsRow w.heap.size 59 4 v2 (k + 1) (rcells 4 (ex q) k ++ rcells 4 (ex fun _ => x) 1)) : Es w V rb c S sv la en v2 (k + 1) (plus q k x) := by
 have hc : U.heap[rb]? = _ := h.rd.cur
 have hk : ∀ r, v.ownBlock = some r → ∃ cs T fr, U.heap[r]? = some (.cells cs T fr) ∧ T ≠ 37 := fun r e => by
  rcases h.own.2 with ⟨e0, -⟩ | ⟨g, cap, cur, e0, -, hgc, -⟩
  · rw [e0] at e; cases e
  · rw [e0] at e; cases e; exact ⟨_, _, _, hgc, by show (59 : Nat) ≠ 37; decide⟩
 refine ⟨h.rd.grown hg (fun r e => ⟨fun e2 => ?_, ?_, (h.own.lt r e).1⟩), by rw [rcells_plus]; exact hr, fun i hi => ?_⟩
 · rw [e2] at e; exact block_other h.own hc (by show (98 : Nat) ≠ 59; decide) e
 · exact row_apart h.rd.own h.own (by decide) e
 · by_cases hik : i = k
   · subst hik; rw [plus_new]; exact hx.kept hg hk
   · rw [plus_old (by omega)]; exact (h.labs i (by omega)).kept hg hk
theorem Es.in_ (h : Es w U rb c S sv la en v k q) (ht : ∀ i, i < k → Ix.Tiny (q i).e) (hk : k ≤ 20) : ∃ A n, v = .slice A k n ∧ EntsIn U A k q := by
 obtain ⟨A, n, e, -, -, -, hrow⟩ := own_row h.own
 refine ⟨A, n, e, hrow, fun i hi => ?_, by omega⟩
 have t := ht i hi
 refine ⟨(h.labs i hi).row, by have := t.few; omega, fun j hj => ?_, t.last, t.off, t.len⟩
 have e : La.at_ (q i).e.l j = (q i).e.l[j] := by unfold La.at_; simp [List.getD, hj]
 rw [e]
 exact t.size _ (List.getElem_mem hj)
end
theorem rone {w U : World} {rb : Nat} {c : Ix.Cu} {S : List ByteArray} {sv : Value} {la en : Int} {g : Int} (hg : 1 ≤ g ∧ g ≤ 3) (hS : S.length ≤ 1000) (h : Rdr w U rb c S sv la en) :
 Calls Tryz.prog (if g = 1 then 93 else if g = 2 then 94 else 95) #[.pointer (some ⟨rb, 0, none⟩)] U (EntOut w U rb (Ix.one g S la en c).1 (Ix.one g S la en c).2.2.2 S sv (Ix.one g S la en c).2.1 (Ix.one g S la en c).2.2.1) := by
 rcases (show g = 1 ∨ g = 2 ∨ g = 3 by omega) with rfl | rfl | rfl
 · exact rfirst h
 · exact rsecond h hS
 · exact rthird h hS
end Go.Proofs.YtliobahnekohmaaGreat
