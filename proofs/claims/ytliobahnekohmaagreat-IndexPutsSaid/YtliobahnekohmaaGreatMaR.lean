import Derived.Test.YtliobahnekohmaaGreatMaC
/-
  What the functions of package match come to: places and pick, over api.Matcher.
-/
namespace Go.Proofs.YtliobahnekohmaaGreat
open Go.RowKit Go.Shelf
attribute [local go_sem] Oper.semAt_some
theorem placesX_any (A : Option Addr) (n c : Nat) (fv : FuncId) (cap : Array Value) (w : World) : Calls Tryz.prog 132 #[.slice A n c, .func (.func fv) #[] cap] w fun e w' =>
 e = .returned (.func (.func 151) #[] #[.pointer (some ⟨w.heap.size, 0, none⟩), .pointer (some ⟨w.heap.size + 1, 0, none⟩)]) ∧ w' = (w.alloc (.cells #[.slice A n c] 38)).alloc (.cells #[.func (.func fv) #[] cap] 132) := by
 go_enter Tryz.func132, Tryz.ntmps132
 go_wp2_with fail
 go_ret
 exact ⟨rfl, rfl⟩
set_option maxRecDepth 100000 in
set_option maxHeartbeats 2000000 in
theorem placesX_hands (w0 : World) (A : Option Addr) (n c : Nat) (hn : n ≤ maxLen) (x : Nat → Nat → Value) (hA : Row 3 x w0 A n) (fv : FuncId) (cap : Array Value) (b : Nat → Bool)
 (hw : ∀ W, Below w0.heap.size w0 W → ∀ i, i < n → Calls Tryz.prog fv (#[.agg #[x i 0, x i 1, x i 2]] ++ cap) W (fun e W2 => e = .returned (.bool (b i)) ∧ Below W.heap.size W W2))
 (he : ∀ args w, (callFunc fv args).run Tryz.prog w = .ok (.enter fv args) w)
 (g : Nat) (w : World) (hbx : PIn w0 g (.slice A n c) (.func (.func fv) #[] cap) 38 132 w) :
 Hands Tryz.prog 151 #[.pointer (some ⟨g, 0, none⟩), .pointer (some ⟨g + 1, 0, none⟩)] (fun s : Nat => #[.int .i64 s]) (fun s => decide (s < n)) (fun s => Ma.nw b n (s + 1)) (PKeep w0.heap.size g) (Ma.nw b n 0) w := by
 intro l J W hK _ hJ hY h0
 have hB := hbx.keep hK
 unfold maxLen at hn
 obtain ⟨b1, b2⟩ := hB.cells
 refine callsIn_of_wp Tryz.func151 rfl trivial ?_ rfl
 simp only [Tryz.ntmps151, List.size_toArray, List.length_cons, List.length_nil, Nat.reduceAdd, Nat.reduceSub, Array.replicate_succ, Array.replicate_zero, List.push_toArray, List.append_toArray, List.nil_append, List.cons_append]
 have HB := Lib.hid hB; have HJ0 := Lib.hid h0; have HA := Lib.hid hA; have HW := Lib.hid hw; clear hB h0 hbx hK hA hw
 have HJ := Lib.hid hJ; have HY := Lib.hid hY; have HE := Lib.hid he; clear hJ hY he
 gi_wp2_with fail
 gi_loopw [7] (fun i wr => ∃ p : Nat, p ≤ n ∧ i = .int .i64 p ∧ J (Ma.nw b n p) wr ∧ PIn w0 g (.slice A n c) (.func (.func fv) #[] cap) 38 132 wr) (fun i _ => n - (intOf i).toNat)
 case atStart => exact ⟨0, Nat.zero_le _, rfl, HJ0.out, HB.out⟩
 case round =>
  obtain ⟨p, hp, rfl, hj, hb⟩ := hrel
  have HBr := Lib.hid hb; have HJr := Lib.hid hj; clear hb hj
  clear b1 b2
  by_cases hlt : p < n
  · have i1 : (p : Int) < (n : Int) := by omega
    have i0 : (0 : Int) ≤ (p : Int) := by omega
    obtain ⟨ad, rfl, -⟩ := HA.out.at_ HBr.out.bel hlt
    have hS : PIn w0 g (.slice (some ad) n c) (.func (.func fv) #[] cap) 38 132 wr.drew := HBr.out.drew
    have hJd : J (Ma.nw b n p) wr.drew := HJ.out _ _ _ HJr.out (grown_drew (grown_refl wr none))
    have hcall := fun W (hW : PIn w0 g (.slice (some ad) n c) (.func (.func fv) #[] cap) 38 132 W) => HW.out W hW.bel p hlt
    have HJd := Lib.hid hJd; have HC := Lib.hid hcall
    clear hJd HJr HBr hcall HB HJ0 HW
    gi_wp2_with fail
    refine iter_held (fun U => PIn w0 g (.slice (some ad) n c) (.func (.func fv) #[] cap) 38 132 U) (by kernel_rfl) ?_
    generalize wr.drew = wd at *
    refine AnyIn.pick (by kernel_rfl) Only.panic (w := wd) hS [0, 1, 2, 3, 4] 7 _ _ (by kernel_rfl) ?_
    refine PickOk.value (d := some 10) (v := .func (.func fv) #[] cap) rfl rfl (by kernel_rfl) (fun U hU => (by obtain ⟨b1, b2⟩ := hU.cells; go_simp)) ?_
    refine PickOk.value (d := some 11) (v := .slice (some ad) n c) rfl rfl (by kernel_rfl) (fun U hU => (by obtain ⟨b1, b2⟩ := hU.cells; go_simp)) ?_
    refine PickOk.value (d := some 12) (v := .int .i64 p) rfl rfl (by kernel_rfl) (fun U hU => (by go_simp)) ?_
    refine PickOk.value (d := some 13) (v := .pointer (some (ad.add (p * 3)))) rfl rfl (by kernel_rfl) (fun U hU => (by go_simp)) ?_
    refine PickOk.value (d := some 14) (v := .agg #[x p 0, x p 1, x p 2]) rfl rfl (by kernel_rfl) (fun U hU => (by obtain ⟨ad2, e, hc0, hc⟩ := HA.out.at_ hU.bel hlt; cases e; have c0 := hc0 (by omega); have c1 := hc 1 (by omega) (by omega); have c2 := hc 2 (by omega) (by omega); go_simp)) ?_
    simp only [PickOk, Act.put, List.setIfInBounds_toArray, List.set_cons_zero, List.set_cons_succ]
    refine AnyIn.one (i := 5) (by kernel_rfl) rfl (by kernel_rfl) ?_
    intro K hK
    have he2 := HE.out
    unfold Oper.wpIn
    refine ⟨fun _ _ => trivial, ?_⟩
    rw [show Fence.wide.round = none from rfl, Oper.semAt_none]
    go_simp
    refine (callsIn_wide.2 (HC.out wd hS)).mono ?_
    rintro e w2 ⟨rfl, hb2⟩
    have hS2 := hS.later hb2
    have hJ2 := HJ.out _ _ _ HJd.out (grown_of_below hb2)
    refine hK _ _ hS2 (fun _ => ?_)
    clear hK K he2 hb2 hS
    cases hbp : b p with
    | false =>
     refine AnyIn.pick (by kernel_rfl) Only.panic (w := w2) hS2 [6, 7, 8, 9, 10, 11] 0 _ _ (by kernel_rfl) ?_
     refine PickOk.value (d := some 16) (v := .bool false) rfl rfl (by kernel_rfl) (fun U hU => (by go_simp)) ?_
     refine pick_skip (d := some 17) rfl rfl (by kernel_rfl) ?_
     refine pick_skip (d := some 18) rfl rfl (by kernel_rfl) ?_
     refine pick_skip (d := some 19) rfl rfl (by kernel_rfl) ?_
     refine pick_skip (d := some 20) rfl rfl (by kernel_rfl) ?_
     refine PickOk.value (d := some 21) (v := .bool false) rfl rfl (by kernel_rfl) (fun U hU => (by go_simp)) ?_
     simp only [PickOk, Act.put, List.setIfInBounds_toArray, List.set_cons_zero, List.set_cons_succ]
     refine AnyIn.done (by kernel_rfl) ?_ _
     refine Only.next ?_
     rw [Ma.nw_no hlt hbp] at hJ2
     have HJ2 := Lib.hid hJ2; have HS2 := Lib.hid hS2
     clear hJ2 hS2 hbp
     gi_wp2_with fail
     go_roundw
     case rel => exact ⟨p + 1, by omega, by go_num, HJ2.out, HS2.out⟩
     case measure => simp [intOf]; omega
    | true =>
     rw [Ma.nw_yes hlt hbp] at hJ2
     refine AnyIn.pick (by kernel_rfl) Only.panic (w := w2) hS2 [6, 7, 8] 3 _ _ (by kernel_rfl) ?_
     refine PickOk.value (d := some 16) (v := .bool true) rfl rfl (by kernel_rfl) (fun U hU => (by go_simp)) ?_
     refine PickOk.value (d := some 17) (v := .func (.yield l) #[] #[]) rfl rfl (by kernel_rfl) (fun U hU => (by go_simp)) ?_
     refine PickOk.value (d := some 18) (v := .int .i64 p) rfl rfl (by kernel_rfl) (fun U hU => (by go_simp)) ?_
     simp only [PickOk, Act.put, List.setIfInBounds_toArray, List.set_cons_zero, List.set_cons_succ]
     refine AnyIn.one (i := 9) (by kernel_rfl) rfl (by kernel_rfl) ?_
     intro K hK
     obtain ⟨fn, tmps, assign, body, hy, hR⟩ := HY.out p w2 hJ2 (by simpa using hlt)
     unfold Oper.wpIn
     refine ⟨fun _ _ => trivial, ?_⟩
     rw [show Fence.wide.round = none from rfl, Oper.semAt_none]
     go_simp
     refine hR.mono ?_
     rintro e w3 ⟨rfl, hJ3, hk3⟩
     have hS3 := hS2.keep hk3
     refine hK _ _ hS3 (fun _ => ?_)
     clear hK K hk3 hR hy hJ2 hS2 hbp
     refine AnyIn.pick (by kernel_rfl) Only.panic (w := w3) hS3 [10, 11] 0 _ _ (by kernel_rfl) ?_
     refine PickOk.value (d := some 20) (v := .bool false) rfl rfl (by kernel_rfl) (fun U hU => (by go_simp)) ?_
     refine PickOk.value (d := some 21) (v := .bool false) rfl rfl (by kernel_rfl) (fun U hU => (by go_simp)) ?_
     simp only [PickOk, Act.put, List.setIfInBounds_toArray, List.set_cons_zero, List.set_cons_succ]
     refine AnyIn.done (by kernel_rfl) ?_ _
     refine Only.next ?_
     have HJ3 := Lib.hid hJ3; have HS3 := Lib.hid hS3
     clear hJ3 hS3
     gi_wp2_with fail
     go_roundw
     case rel => exact ⟨p + 1, by omega, by go_num, HJ3.out, HS3.out⟩
     case measure => simp [intOf]; omega
  · obtain rfl : p = n := by omega
    have hje := HJr.out
    rw [Ma.nw_end (Nat.le_refl p)] at hje
    have HJE := Lib.hid hje; clear hje
    gi_wp2_with fail
    go_end0
    exact ⟨⟨_, rfl⟩, p, by simp, HJE.out⟩
theorem infoX : (Tryz.prog.info? 55).map (fun i => (i.zero, i.size, i.bytes)) = some (some (.agg #[.int .i64 0, .string ByteArray.empty, .string ByteArray.empty]), 3, 40) := by kernel_rfl
set_option maxRecDepth 100000 in
set_option maxHeartbeats 2000000 in
theorem pickX_any (A : Option Addr) (n c : Nat) (hn : n ≤ 1000000) (x : Nat → Nat → Value) (hx : ∀ i j, (x i j).oneCell' = true) (fv : FuncId) (cap : Array Value) (b : Nat → Bool)
 (he : ∀ args w, (callFunc fv args).run Tryz.prog w = .ok (.enter fv args) w) (w : World) (hA : Row 3 x w A n)
 (hw : ∀ W, Below w.heap.size w W → ∀ i, i < n → Calls Tryz.prog fv (#[.agg #[x i 0, x i 1, x i 2]] ++ cap) W (fun e W2 => e = .returned (.bool (b i)) ∧ Below W.heap.size W W2)) :
 Calls Tryz.prog 99 #[.slice A n c, .func (.func fv) #[] cap] w (Picks 55 3 (fun i => [x i 0, x i 1, x i 2]) (Ma.sel b n) w) := by
 obtain ⟨i0, hi0, hz0, hz1, hz2⟩ := info_parts infoX
 have HA := Lib.hid hA
 refine (callsIn_wide (n := 3)).1 ?_
 refine callsIn_of_wp_marks Tryz.func99 rfl trivial ?_ rfl
 simp only [Tryz.ntmps99, List.size_toArray, List.length_cons, List.length_nil, Nat.reduceAdd, Nat.reduceSub, Array.replicate_succ, Array.replicate_zero, List.push_toArray, List.append_toArray, List.nil_append, List.cons_append]
 refine wpIn_wide.2 ?_
 go_wp2_with fail
 have h2 := f_two_heap w (.cells #[.slice A n c] 38) (.cells #[.slice none 0 0] 38)
 generalize (w.alloc (.cells #[.slice A n c] 38)).alloc (.cells #[.slice none 0 0] 38) = w2 at *
 obtain ⟨h20, h21, z2, hk2, hg2⟩ := h2
 refine (placesX_any A n c fv cap _).mono ?_; rintro e w4 ⟨rfl, hw4⟩
 have h4 := f_two_heap w2 (.cells #[.slice A n c] 38) (.cells #[.func (.func fv) #[] cap] 132)
 rw [← hw4] at h4
 clear hw4
 obtain ⟨h42, h43, z4, hk4, hg4⟩ := h4
 rw [z2] at h42 h43 z4 hk4 ⊢
 have hpin : PIn w (w.heap.size + 2) (.slice A n c) (.func (.func fv) #[] cap) 38 132 w4 := ⟨by omega, (Below.refl w.heap.size w).grown (grown_trans hg2 hg4) (Nat.le_refl _) (fun r e => by cases e), h42, h43⟩
 obtain ⟨q1, q2, q3, q4⟩ := Ma.nw_spec b (Nat.zero_le n)
 have start : PickAt w w (.slice A n c) 38 38 55 3 (.slice A n c) (.func (.func fv) #[] cap) 38 132 (fun i => [x i 0, x i 1, x i 2]) b n (Ma.nw b n 0) w4 :=
  ⟨⟨.slice none 0 0, (hk4 _ (by omega)).trans h21, by rw [q3]; exact World.ownsRow_nil _ _ _ _⟩, (hk4 _ (by omega)).trans h20, hpin, by omega, by omega, q2, q4⟩
 have ST := Lib.hid start
 clear start hk2 hk4 hg2 hg4 h20 h21 h42 h43 q1 q2 q3 q4
 go_wp2_with fail
 refine (wpIn_wide (n := 3)).1 ?_
 refine' rangeN (gf := 151) (lb := #[.pointer (some ⟨w.heap.size + 2, 0, none⟩), .pointer (some ⟨w.heap.size + 2 + 1, 0, none⟩)]) rfl (enters_of Tryz.func151 (by kernel_rfl) rfl)
  (placesX_hands w A n c (by unfold maxLen; omega) x hA fv cap b hw he (w.heap.size + 2) w4 hpin) (fun h k => h.trans k) ?ka ?kb (fun _ => rfl) (PickAt w w (.slice A n c) 38 38 55 3 (.slice A n c) (.func (.func fv) #[] cap) 38 132 (fun i => [x i 0, x i 1, x i 2]) b n) ?hI ST.out _ ?assign ?body ?done
 case ka =>
  intro o1 o2 _ _
  have t := f_two_heap w4 o1 o2
  exact ⟨(Below.refl _ _).grown t.2.2.2.2 (by omega) (fun r e => by cases e), t.2.2.2.1 _ (by omega), t.2.2.2.1 _ (by omega)⟩
 case kb =>
  intro W l o o2 hl ho _
  have hlt := (Array.getElem?_eq_some_iff.1 ho).1
  exact ⟨(Below.refl _ _).grown (grownBy_putObj' W l o2) (by omega) (fun r e => by cases e; omega), f_putObj_other _ _ _ _ (by omega), f_putObj_other _ _ _ _ (by omega)⟩
 case hI =>
  intro s W W2 row h hg hr
  exact h.kept hg (fun r e => ⟨by have := (hr r e).1; omega, (hr r e).2⟩)
 case assign =>
  intro l s W K hK
  gi_wp2
  exact hK
 case body =>
  intro l s W hi hmr
  have hlt : s < n := of_decide_eq_true hmr
  have hbs : b s = true := hi.want hlt
  obtain ⟨o, h1, h2⟩ := hi.ex
  have hend := fun o' W1 => pick_end (W := W.drew) (o' := o') (W1 := W1) (ob := .cells #[x s 0, x s 1, x s 2] 55) ⟨⟨o, h1, h2⟩, hi.box, hi.pin.drew, hi.low, hi.size, hi.le, hi.want⟩ hlt hbs h1 h2
  have c0 : W.drew.cell? ⟨w.heap.size, 0, none⟩ = some (.slice A n c) := cell_of_row _ _ _ _ _ _ hi.box
  have c1 : W.drew.cell? ⟨w.heap.size + 1, 0, none⟩ = some o := cell_of_row _ _ _ _ _ _ h1
  obtain ⟨ad, rfl, hc0, hc⟩ := HA.out.at_ hi.pin.drew.bel hlt
  have hsz := hi.size
  have hsl := Ma.sel_length b s
  have j1 : (s : Int) < (n : Int) := by omega
  have j0 : (0 : Int) ≤ (s : Int) := by omega
  have h2d : W.drew.ownsRow (w.heap.size + 4) 55 3 o (Ma.sel b s).length ((Ma.sel b s).flatMap (fun i => [x i 0, x i 1, x i 2])) := h2
  have hvb : ∀ k, o.ownBlock = some k → w.heap.size + 4 ≤ k := fun k hk => (h2.lt k hk).1
  have hfacts : ∀ (w1 : World), (W.drew.alloc (.cells #[x s 0, x s 1, x s 2] 55)).grownBy w1 o.ownBlock → w1.cell? ⟨w.heap.size + 1, 0, none⟩ = some o ∧ w1.frozen? ⟨w.heap.size + 1, 0, none⟩ = false := fun w1 hgrow => by
   have hlow1 : w1.heap[w.heap.size + 1]? = W.heap[w.heap.size + 1]? := (hgrow.block _ (by simp; omega) (fun e => by have := hvb _ e.symm; omega)).trans (Below.heap_alloc W.drew _ _ (by show _ < W.heap.size; omega))
   exact ⟨cell_of_row _ _ _ _ _ _ (hlow1.trans h1), frozen_of_row _ _ _ _ _ (hlow1.trans h1)⟩
  have hb1 : (Ma.sel b s).length + 1 ≤ maxLen := by unfold maxLen; omega
  have hb2 : ((Ma.sel b s).length + 1) * 40 ≤ 140737488355328 := by omega
  have hb3 : w.heap.size + 4 ≤ (W.drew.alloc (.cells #[x s 0, x s 1, x s 2] 55)).heap.size := by simp; omega
  have HI := Lib.hid hi; have HEND := Lib.hid hend; have HF := Lib.hid hfacts; have HB1 := Lib.hid hb1; have HB2 := Lib.hid hb2; have HB3 := Lib.hid hb3; have H2 := Lib.hid h2d; have HDR : Hid (W.drew.heap = W.heap) := Lib.hid rfl
  have HKB : Hid (∀ X, KeepsFrom (w.heap.size + 4) W.drew X → KeepsFrom (w.heap.size + 4) W X) := Lib.hid (fun X h => ⟨h.size, h.same⟩)
  have HPK : Hid (∀ X, PKeep w.heap.size (w.heap.size + 2) W.drew X → PKeep w.heap.size (w.heap.size + 2) W X) := Lib.hid (fun X h => ⟨⟨h.1.os, h.1.tape, h.1.output, h.1.size, h.1.block⟩, h.2.1, h.2.2⟩)
  have HX := Lib.hid hx; have HVB := Lib.hid hvb
  have hS : PickS w (.slice (some ad) n c) 38 W.drew := ⟨hi.pin.bel.drew, hi.box⟩
  clear hi hmr ST h1 h2 h2d hend hfacts hb1 hb2 hb3 hvb hc0 hc hsl hx hpin hA
  gi_wp2_with fail
  refine round_held (fun U => PickS w (.slice (some ad) n c) 38 U) (by kernel_rfl) (by kernel_rfl) ?_
  generalize W.drew = Wd at *
  refine wpAnyH_pick (by kernel_rfl) Only.panic (w := Wd) hS [1, 2, 3, 4] 4 _ _ (by kernel_rfl) ?_
  refine PickOk.value (d := some 12) (v := .slice (some ad) n c) rfl rfl (by kernel_rfl) (fun U hU => (by have c9 := hU.at_box; go_simp)) ?_
  refine PickOk.value (d := some 13) (v := .int .i64 s) rfl rfl (by kernel_rfl) (fun U hU => (by go_simp)) ?_
  refine PickOk.value (d := some 14) (v := .pointer (some (ad.add (s * 3)))) rfl rfl (by kernel_rfl) (fun U hU => (by go_simp)) ?_
  refine PickOk.value (d := some 15) (v := .agg #[x s 0, x s 1, x s 2]) rfl rfl (by kernel_rfl) (fun U hU => (by obtain ⟨ad2, e, hc0, hc⟩ := HA.out.at_ hU.bel hlt; cases e; have c0 := hc0 (by omega); have c1 := hc 1 (by omega) (by omega); have c2 := hc 2 (by omega) (by omega); go_simp)) ?_
  simp only [PickOk, Act.put, List.setIfInBounds_toArray, List.set_cons_zero, List.set_cons_succ]
  have hS5 := hS.later ((Below.refl _ _).alloc (Nat.le_refl _) (.cells #[x s 0, x s 1, x s 2] 55))
  have e0 : (Wd.alloc (.cells #[x s 0, x s 1, x s 2] 55)).cell? ⟨w.heap.size + 1, 0, none⟩ = some o := cell_keep c1 ((Below.refl _ _).alloc (Nat.le_refl _) _)
  refine wpAnyH_two (i := 0) (j := 5) (by kernel_rfl) rfl rfl (by kernel_rfl) (by kernel_rfl) ?_ ?_
  · intro K hK
    unfold Oper.wp
    go_simp
    refine hK _ _ hS (fun _ => ?_)
    clear hK K
    refine wpAnyH_one (i := 5) (by kernel_rfl) rfl (by kernel_rfl) ?_
    intro K hK
    unfold Oper.wp
    go_simp
    refine hK _ _ hS5 (fun _ => ?_)
    clear hK K
    refine wpAnyH_one (i := 6) (by kernel_rfl) rfl (by kernel_rfl) ?_
    intro K hK
    refine wp_append_own _ _ _ 38 rfl (w.heap.size + 4) 55 i0 (.agg #[.int .i64 0, .string ByteArray.empty, .string ByteArray.empty]) 3 40 Tryz.underlying38 hi0 hz0 hz1 hz2 rfl (by decide) _ _ _ rfl (H2.out.alloc _) ⟨Wd.heap.size, 0, none⟩ 1 1 [x s 0, x s 1, x s 2] rfl rfl (cells_new _ _ _) (by simp [HX.out]) HB1.out HB2.out HB3.out ?_
    intro o' w1 hown' hgrow _
    obtain ⟨g', cap', rfl⟩ := ownsRow_succ hown'
    obtain ⟨e1, f1⟩ := HF.out w1 hgrow
    have HFIN := Lib.hid (HEND.out _ w1 hown' hgrow)
    have hS6 := hS5.grown hgrow (fun r hr => HVB.out r hr)
    clear hown' hgrow
    refine hK _ _ hS6 (fun _ => ?_)
    clear hK K
    refine wpAnyH_one (i := 7) (by kernel_rfl) rfl (by kernel_rfl) ?_
    intro K hK
    unfold Oper.wp
    go_simp
    refine hK _ _ (hS6.out_ _) (fun _ => ?_)
    clear hK K
    refine wpAnyH_done (by kernel_rfl) ?_ _
    refine only_mk ?_
    gi_wp2_with fail
    obtain ⟨z1, z2, z3⟩ := HFIN.out
    rw [z4]
    exact ⟨HKB.out _ z1, HPK.out _ z2, z3⟩
  · intro K hK
    unfold Oper.wp
    go_simp
    refine hK _ _ hS5 (fun _ => ?_)
    clear hK K
    refine wpAnyH_one (i := 0) (by kernel_rfl) rfl (by kernel_rfl) ?_
    intro K hK
    unfold Oper.wp
    go_simp
    refine hK _ _ hS5 (fun _ => ?_)
    clear hK K
    refine wpAnyH_one (i := 6) (by kernel_rfl) rfl (by kernel_rfl) ?_
    intro K hK
    refine wp_append_own _ _ _ 38 rfl (w.heap.size + 4) 55 i0 (.agg #[.int .i64 0, .string ByteArray.empty, .string ByteArray.empty]) 3 40 Tryz.underlying38 hi0 hz0 hz1 hz2 rfl (by decide) _ _ _ rfl (H2.out.alloc _) ⟨Wd.heap.size, 0, none⟩ 1 1 [x s 0, x s 1, x s 2] rfl rfl (cells_new _ _ _) (by simp [HX.out]) HB1.out HB2.out HB3.out ?_
    intro o' w1 hown' hgrow _
    obtain ⟨g', cap', rfl⟩ := ownsRow_succ hown'
    obtain ⟨e1, f1⟩ := HF.out w1 hgrow
    have HFIN := Lib.hid (HEND.out _ w1 hown' hgrow)
    have hS6 := hS5.grown hgrow (fun r hr => HVB.out r hr)
    clear hown' hgrow
    refine hK _ _ hS6 (fun _ => ?_)
    clear hK K
    refine wpAnyH_one (i := 7) (by kernel_rfl) rfl (by kernel_rfl) ?_
    intro K hK
    unfold Oper.wp
    go_simp
    refine hK _ _ (hS6.out_ _) (fun _ => ?_)
    clear hK K
    refine wpAnyH_done (by kernel_rfl) ?_ _
    refine only_mk ?_
    gi_wp2_with fail
    obtain ⟨z1, z2, z3⟩ := HFIN.out
    rw [z4]
    exact ⟨HKB.out _ z1, HPK.out _ z2, z3⟩
 case done =>
  intro D s W hD hmr hi hK
  have hge : n ≤ s := Nat.le_of_not_lt (of_decide_eq_false hmr)
  obtain rfl : s = n := by have := hi.le; omega
  obtain ⟨o, h1, h2⟩ := hi.ex
  have c1 : W.cell? ⟨w.heap.size + 1, 0, none⟩ = some o := cell_of_row _ _ _ _ _ _ h1
  have hsz := hi.size
  have HI := Lib.hid hi; have HK := Lib.hid hK; have H2 := Lib.hid h2
  clear hi hK h2 h1 hmr ST hge hpin
  go_wp2_with fail
  refine ⟨by simp, .inl ⟨_, _, rfl, run_takeDeferred HK.out, ?_⟩⟩
  have hk := HI.out.kept (grownBy_putObj' W D (.deferred none)) (fun r e => by cases e; exact ⟨by omega, _, HK.out, rfl⟩)
  have hown := H2.out.kept (grownBy_putObj' W D (.deferred none)) (by cases hv : o.ownBlock with
   | none => exact .inl rfl
   | some k => exact .inr (fun e => by cases e; have := own_cells H2.out hv HK.out; cases this))
  exact ⟨o, by simp [results, Tryz.results99, go_sem], o, rfl, own_from hown (by omega), hk.pin.bel⟩
end Go.Proofs.YtliobahnekohmaaGreat
/-
  What the functions of package match come to: places, over []api.Label.
-/
namespace Go.Proofs.YtliobahnekohmaaGreat
open Go.RowKit Go.Shelf
attribute [local go_sem] Oper.semAt_some
theorem placesR_any (A : Option Addr) (n c : Nat) (fv : FuncId) (cap : Array Value) (w : World) : Calls Tryz.prog 58 #[.slice A n c, .func (.func fv) #[] cap] w fun e w' =>
 e = .returned (.func (.func 98) #[] #[.pointer (some ⟨w.heap.size, 0, none⟩), .pointer (some ⟨w.heap.size + 1, 0, none⟩)]) ∧ w' = (w.alloc (.cells #[.slice A n c] 56)).alloc (.cells #[.func (.func fv) #[] cap] 64) := by
 go_enter Tryz.func58, Tryz.ntmps58
 go_wp2_with fail
 go_ret
 exact ⟨rfl, rfl⟩
set_option maxRecDepth 100000 in
set_option maxHeartbeats 2000000 in
theorem placesR_hands (w0 : World) (A : Option Addr) (n c : Nat) (hn : n ≤ maxLen) (x : Nat → Nat → Value) (hA : Row 1 x w0 A n) (fv : FuncId) (cap : Array Value) (b : Nat → Bool)
 (hw : ∀ W, Below w0.heap.size w0 W → ∀ i, i < n → Calls Tryz.prog fv (#[x i 0] ++ cap) W (fun e W2 => e = .returned (.bool (b i)) ∧ Below W.heap.size W W2))
 (he : ∀ args w, (callFunc fv args).run Tryz.prog w = .ok (.enter fv args) w)
 (g : Nat) (w : World) (hbx : PIn w0 g (.slice A n c) (.func (.func fv) #[] cap) 56 64 w) :
 Hands Tryz.prog 98 #[.pointer (some ⟨g, 0, none⟩), .pointer (some ⟨g + 1, 0, none⟩)] (fun s : Nat => #[.int .i64 s]) (fun s => decide (s < n)) (fun s => Ma.nw b n (s + 1)) (PKeep w0.heap.size g) (Ma.nw b n 0) w := by
 intro l J W hK _ hJ hY h0
 have hB := hbx.keep hK
 unfold maxLen at hn
 obtain ⟨b1, b2⟩ := hB.cells
 refine callsIn_of_wp Tryz.func98 rfl trivial ?_ rfl
 simp only [Tryz.ntmps98, List.size_toArray, List.length_cons, List.length_nil, Nat.reduceAdd, Nat.reduceSub, Array.replicate_succ, Array.replicate_zero, List.push_toArray, List.append_toArray, List.nil_append, List.cons_append]
 have HB := Lib.hid hB; have HJ0 := Lib.hid h0; have HA := Lib.hid hA; have HW := Lib.hid hw; clear hB h0 hbx hK hA hw
 have HJ := Lib.hid hJ; have HY := Lib.hid hY; have HE := Lib.hid he; clear hJ hY he
 gi_wp2_with fail
 gi_loopw [7] (fun i wr => ∃ p : Nat, p ≤ n ∧ i = .int .i64 p ∧ J (Ma.nw b n p) wr ∧ PIn w0 g (.slice A n c) (.func (.func fv) #[] cap) 56 64 wr) (fun i _ => n - (intOf i).toNat)
 case atStart => exact ⟨0, Nat.zero_le _, rfl, HJ0.out, HB.out⟩
 case round =>
  obtain ⟨p, hp, rfl, hj, hb⟩ := hrel
  have HBr := Lib.hid hb; have HJr := Lib.hid hj; clear hb hj
  clear b1 b2
  by_cases hlt : p < n
  · have i1 : (p : Int) < (n : Int) := by omega
    have i0 : (0 : Int) ≤ (p : Int) := by omega
    obtain ⟨ad, rfl, -⟩ := HA.out.at_ HBr.out.bel hlt
    have hS : PIn w0 g (.slice (some ad) n c) (.func (.func fv) #[] cap) 56 64 wr.drew := HBr.out.drew
    have hJd : J (Ma.nw b n p) wr.drew := HJ.out _ _ _ HJr.out (grown_drew (grown_refl wr none))
    have hcall := fun W (hW : PIn w0 g (.slice (some ad) n c) (.func (.func fv) #[] cap) 56 64 W) => HW.out W hW.bel p hlt
    have HJd := Lib.hid hJd; have HC := Lib.hid hcall
    clear hJd HJr HBr hcall HB HJ0 HW
    gi_wp2_with fail
    refine iter_held (fun U => PIn w0 g (.slice (some ad) n c) (.func (.func fv) #[] cap) 56 64 U) (by kernel_rfl) ?_
    generalize wr.drew = wd at *
    refine AnyIn.pick (by kernel_rfl) Only.panic (w := wd) hS [0, 1, 2, 3, 4] 7 _ _ (by kernel_rfl) ?_
    refine PickOk.value (d := some 10) (v := .func (.func fv) #[] cap) rfl rfl (by kernel_rfl) (fun U hU => (by obtain ⟨b1, b2⟩ := hU.cells; go_simp)) ?_
    refine PickOk.value (d := some 11) (v := .slice (some ad) n c) rfl rfl (by kernel_rfl) (fun U hU => (by obtain ⟨b1, b2⟩ := hU.cells; go_simp)) ?_
    refine PickOk.value (d := some 12) (v := .int .i64 p) rfl rfl (by kernel_rfl) (fun U hU => (by go_simp)) ?_
    refine PickOk.value (d := some 13) (v := .pointer (some (ad.add p))) rfl rfl (by kernel_rfl) (fun U hU => (by go_simp)) ?_
    refine PickOk.value (d := some 14) (v := x p 0) rfl rfl (by kernel_rfl) (fun U hU => (by obtain ⟨ad2, e, hc0, hc⟩ := HA.out.at_ hU.bel hlt; cases e; have c0 := hc0 (by omega); rw [Nat.mul_one] at c0; go_simp)) ?_
    simp only [PickOk, Act.put, List.setIfInBounds_toArray, List.set_cons_zero, List.set_cons_succ]
    refine AnyIn.one (i := 5) (by kernel_rfl) rfl (by kernel_rfl) ?_
    intro K hK
    have he2 := HE.out
    unfold Oper.wpIn
    refine ⟨fun _ _ => trivial, ?_⟩
    rw [show Fence.wide.round = none from rfl, Oper.semAt_none]
    go_simp
    refine (callsIn_wide.2 (HC.out wd hS)).mono ?_
    rintro e w2 ⟨rfl, hb2⟩
    have hS2 := hS.later hb2
    have hJ2 := HJ.out _ _ _ HJd.out (grown_of_below hb2)
    refine hK _ _ hS2 (fun _ => ?_)
    clear hK K he2 hb2 hS
    cases hbp : b p with
    | false =>
     refine AnyIn.pick (by kernel_rfl) Only.panic (w := w2) hS2 [6, 7, 8, 9, 10, 11] 0 _ _ (by kernel_rfl) ?_
     refine PickOk.value (d := some 16) (v := .bool false) rfl rfl (by kernel_rfl) (fun U hU => (by go_simp)) ?_
     refine pick_skip (d := some 17) rfl rfl (by kernel_rfl) ?_
     refine pick_skip (d := some 18) rfl rfl (by kernel_rfl) ?_
     refine pick_skip (d := some 19) rfl rfl (by kernel_rfl) ?_
     refine pick_skip (d := some 20) rfl rfl (by kernel_rfl) ?_
     refine PickOk.value (d := some 21) (v := .bool false) rfl rfl (by kernel_rfl) (fun U hU => (by go_simp)) ?_
     simp only [PickOk, Act.put, List.setIfInBounds_toArray, List.set_cons_zero, List.set_cons_succ]
     refine AnyIn.done (by kernel_rfl) ?_ _
     refine Only.next ?_
     rw [Ma.nw_no hlt hbp] at hJ2
     have HJ2 := Lib.hid hJ2; have HS2 := Lib.hid hS2
     clear hJ2 hS2 hbp
     gi_wp2_with fail
     go_roundw
     case rel => exact ⟨p + 1, by omega, by go_num, HJ2.out, HS2.out⟩
     case measure => simp [intOf]; omega
    | true =>
     rw [Ma.nw_yes hlt hbp] at hJ2
     refine AnyIn.pick (by kernel_rfl) Only.panic (w := w2) hS2 [6, 7, 8] 3 _ _ (by kernel_rfl) ?_
     refine PickOk.value (d := some 16) (v := .bool true) rfl rfl (by kernel_rfl) (fun U hU => (by go_simp)) ?_
     refine PickOk.value (d := some 17) (v := .func (.yield l) #[] #[]) rfl rfl (by kernel_rfl) (fun U hU => (by go_simp)) ?_
     refine PickOk.value (d := some 18) (v := .int .i64 p) rfl rfl (by kernel_rfl) (fun U hU => (by go_simp)) ?_
     simp only [PickOk, Act.put, List.setIfInBounds_toArray, List.set_cons_zero, List.set_cons_succ]
     refine AnyIn.one (i := 9) (by kernel_rfl) rfl (by kernel_rfl) ?_
     intro K hK
     obtain ⟨fn, tmps, assign, body, hy, hR⟩ := HY.out p w2 hJ2 (by simpa using hlt)
     unfold Oper.wpIn
     refine ⟨fun _ _ => trivial, ?_⟩
     rw [show Fence.wide.round = none from rfl, Oper.semAt_none]
     go_simp
     refine hR.mono ?_
     rintro e w3 ⟨rfl, hJ3, hk3⟩
     have hS3 := hS2.keep hk3
     refine hK _ _ hS3 (fun _ => ?_)
     clear hK K hk3 hR hy hJ2 hS2 hbp
     refine AnyIn.pick (by kernel_rfl) Only.panic (w := w3) hS3 [10, 11] 0 _ _ (by kernel_rfl) ?_
     refine PickOk.value (d := some 20) (v := .bool false) rfl rfl (by kernel_rfl) (fun U hU => (by go_simp)) ?_
     refine PickOk.value (d := some 21) (v := .bool false) rfl rfl (by kernel_rfl) (fun U hU => (by go_simp)) ?_
     simp only [PickOk, Act.put, List.setIfInBounds_toArray, List.set_cons_zero, List.set_cons_succ]
     refine AnyIn.done (by kernel_rfl) ?_ _
     refine Only.next ?_
     have HJ3 := Lib.hid hJ3; have HS3 := Lib.hid hS3
     clear hJ3 hS3
     gi_wp2_with fail
     go_roundw
     case rel => exact ⟨p + 1, by omega, by go_num, HJ3.out, HS3.out⟩
     case measure => simp [intOf]; omega
  · obtain rfl : p = n := by omega
    have hje := HJr.out
    rw [Ma.nw_end (Nat.le_refl p)] at hje
    have HJE := Lib.hid hje; clear hje
    gi_wp2_with fail
    go_end0
    exact ⟨⟨_, rfl⟩, p, by simp, HJE.out⟩
end Go.Proofs.YtliobahnekohmaaGreat
