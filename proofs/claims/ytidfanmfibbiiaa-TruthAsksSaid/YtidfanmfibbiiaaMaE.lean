import Derived.Test.YtidfanmfibbiiaaMaC
import Derived.Test.YtidfanmfibbiiaaLgA
/-
  What the functions of package match come to: places and pick, over api.Label.
-/
namespace Go.Proofs.Ytidfanmfibbiiaa
open Go.RowKit Go.Shelf
attribute [local go_sem] Oper.semAt_some

theorem placesL_any (A : Option Addr) (n c : Nat) (fv : FuncId) (cap : Array Value) (w : World) : Calls Try.prog 85 #[.slice A n c, .func (.func fv) #[] cap] w fun e w' =>
    e = .returned (.func (.func 89) #[] #[.pointer (some ⟨w.heap.size, 0, none⟩), .pointer (some ⟨w.heap.size + 1, 0, none⟩)]) ∧ w' = (w.alloc (.cells #[.slice A n c] 35)).alloc (.cells #[.func (.func fv) #[] cap] 133) := by
  go_enter Try.func85, Try.ntmps85
  go_wp2_with fail
  go_ret
  exact ⟨rfl, rfl⟩

set_option maxRecDepth 100000 in
set_option maxHeartbeats 2000000 in
theorem placesL_hands (w0 : World) (A : Option Addr) (n c : Nat) (hn : n ≤ maxLen) (x : Nat → Nat → Value) (hA : Row 2 x w0 A n) (fv : FuncId) (cap : Array Value) (b : Nat → Bool)
    (hw : ∀ W, Below w0.heap.size w0 W → ∀ i, i < n → Calls Try.prog fv (#[.agg #[x i 0, x i 1]] ++ cap) W (fun e W2 => e = .returned (.bool (b i)) ∧ Below W.heap.size W W2))
    (he : ∀ args w, (callFunc fv args).run Try.prog w = .ok (.enter fv args) w)
    (g : Nat) (w : World) (hbx : PIn w0 g (.slice A n c) (.func (.func fv) #[] cap) 35 133 w) :
    Hands Try.prog 89 #[.pointer (some ⟨g, 0, none⟩), .pointer (some ⟨g + 1, 0, none⟩)] (fun s : Nat => #[.int .i64 s]) (fun s => decide (s < n)) (fun s => Ma.nw b n (s + 1)) (PKeep w0.heap.size g) (Ma.nw b n 0) w := by
  intro l J W hK _ hJ hY h0
  have hB := hbx.keep hK
  unfold maxLen at hn
  obtain ⟨b1, b2⟩ := hB.cells
  refine callsIn_of_wp Try.func89 rfl trivial ?_ rfl
  simp only [Try.ntmps89, List.size_toArray, List.length_cons, List.length_nil, Nat.reduceAdd, Nat.reduceSub, Array.replicate_succ, Array.replicate_zero, List.push_toArray, List.append_toArray, List.nil_append, List.cons_append]
  have HB := Lib.hid hB; have HJ0 := Lib.hid h0; have HA := Lib.hid hA; have HW := Lib.hid hw; clear hB h0 hbx hK hA hw
  have HJ := Lib.hid hJ; have HY := Lib.hid hY; have HE := Lib.hid he; clear hJ hY he
  gi_wp2_with fail
  gi_loopw [7] (fun i wr => ∃ p : Nat, p ≤ n ∧ i = .int .i64 p ∧ J (Ma.nw b n p) wr ∧ PIn w0 g (.slice A n c) (.func (.func fv) #[] cap) 35 133 wr) (fun i _ => n - (intOf i).toNat)
  case atStart => exact ⟨0, Nat.zero_le _, rfl, HJ0.out, HB.out⟩
  case round =>
    obtain ⟨p, hp, rfl, hj, hb⟩ := hrel
    have HBr := Lib.hid hb; have HJr := Lib.hid hj; clear hb hj
    clear b1 b2
    by_cases hlt : p < n
    · have i1 : (p : Int) < (n : Int) := by omega
      have i0 : (0 : Int) ≤ (p : Int) := by omega
      obtain ⟨ad, rfl, -⟩ := HA.out.at_ HBr.out.bel hlt
      have hS : PIn w0 g (.slice (some ad) n c) (.func (.func fv) #[] cap) 35 133 wr.drew := HBr.out.drew
      have hJd : J (Ma.nw b n p) wr.drew := HJ.out _ _ _ HJr.out (grown_drew (grown_refl wr none))
      have hcall := fun W (hW : PIn w0 g (.slice (some ad) n c) (.func (.func fv) #[] cap) 35 133 W) => HW.out W hW.bel p hlt
      have HJd := Lib.hid hJd; have HC := Lib.hid hcall
      clear hJd HJr HBr hcall HB HJ0 HW
      gi_wp2_with fail
      refine iter_held (fun U => PIn w0 g (.slice (some ad) n c) (.func (.func fv) #[] cap) 35 133 U) (by kernel_rfl) ?_
      generalize wr.drew = wd at *
      refine AnyIn.pick (by kernel_rfl) Only.panic (w := wd) hS [0, 1, 2, 3, 4] 7 _ _ (by kernel_rfl) ?_
      refine PickOk.value (d := some 10) (v := .func (.func fv) #[] cap) rfl rfl (by kernel_rfl) (fun U hU => (by obtain ⟨b1, b2⟩ := hU.cells; go_simp)) ?_
      refine PickOk.value (d := some 11) (v := .slice (some ad) n c) rfl rfl (by kernel_rfl) (fun U hU => (by obtain ⟨b1, b2⟩ := hU.cells; go_simp)) ?_
      refine PickOk.value (d := some 12) (v := .int .i64 p) rfl rfl (by kernel_rfl) (fun U hU => (by go_simp)) ?_
      refine PickOk.value (d := some 13) (v := .pointer (some (ad.add (p * 2)))) rfl rfl (by kernel_rfl) (fun U hU => (by go_simp)) ?_
      refine PickOk.value (d := some 14) (v := .agg #[x p 0, x p 1]) rfl rfl (by kernel_rfl) (fun U hU => (by obtain ⟨ad2, e, hc0, hc⟩ := HA.out.at_ hU.bel hlt; cases e; have c0 := hc0 (by omega); have c1 := hc 1 (by omega) (by omega); go_simp)) ?_
      simp only [PickOk, Act.put, List.setIfInBounds_toArray, List.set_cons_zero, List.set_cons_succ]
      refine AnyIn.one (i := 5) (by kernel_rfl) rfl (by kernel_rfl) ?_
      intro K hK
      have he2 := HE.out
      unfold Oper.wpIn
      refine ⟨fun _ _ => trivial, ?_⟩
      rw [show Fence.wide.round = none from rfl, Oper.semAt_none]
      go_simp
      refine (callsIn_wide.2 (HC.out wd hS)).mono ?_
      rintro e w2 ⟨rfl, hb2⟩
      have hS2 := hS.later hb2
      have hJ2 := HJ.out _ _ _ HJd.out (grown_of_below hb2)
      refine hK _ _ hS2 (fun _ => ?_)
      clear hK K he2 hb2 hS
      cases hbp : b p with
      | false =>
        refine AnyIn.pick (by kernel_rfl) Only.panic (w := w2) hS2 [6, 7, 8, 9, 10, 11] 0 _ _ (by kernel_rfl) ?_
        refine PickOk.value (d := some 16) (v := .bool false) rfl rfl (by kernel_rfl) (fun U hU => (by go_simp)) ?_
        refine pick_skip (d := some 17) rfl rfl (by kernel_rfl) ?_
        refine pick_skip (d := some 18) rfl rfl (by kernel_rfl) ?_
        refine pick_skip (d := some 19) rfl rfl (by kernel_rfl) ?_
        refine pick_skip (d := some 20) rfl rfl (by kernel_rfl) ?_
        refine PickOk.value (d := some 21) (v := .bool false) rfl rfl (by kernel_rfl) (fun U hU => (by go_simp)) ?_
        simp only [PickOk, Act.put, List.setIfInBounds_toArray, List.set_cons_zero, List.set_cons_succ]
        refine AnyIn.done (by kernel_rfl) ?_ _
        refine Only.next ?_
        rw [Ma.nw_no hlt hbp] at hJ2
        have HJ2 := Lib.hid hJ2; have HS2 := Lib.hid hS2
        clear hJ2 hS2 hbp
        gi_wp2_with fail
        go_roundw
        case rel => exact ⟨p + 1, by omega, by go_num, HJ2.out, HS2.out⟩
        case measure => simp [intOf]; omega
      | true =>
        rw [Ma.nw_yes hlt hbp] at hJ2
        refine AnyIn.pick (by kernel_rfl) Only.panic (w := w2) hS2 [6, 7, 8] 3 _ _ (by kernel_rfl) ?_
        refine PickOk.value (d := some 16) (v := .bool true) rfl rfl (by kernel_rfl) (fun U hU => (by go_simp)) ?_
        refine PickOk.value (d := some 17) (v := .func (.yield l) #[] #[]) rfl rfl (by kernel_rfl) (fun U hU => (by go_simp)) ?_
        refine PickOk.value (d := some 18) (v := .int .i64 p) rfl rfl (by kernel_rfl) (fun U hU => (by go_simp)) ?_
        simp only [PickOk, Act.put, List.setIfInBounds_toArray, List.set_cons_zero, List.set_cons_succ]
        refine AnyIn.one (i := 9) (by kernel_rfl) rfl (by kernel_rfl) ?_
        intro K hK
        obtain ⟨fn, tmps, assign, body, hy, hR⟩ := HY.out p w2 hJ2 (by simpa using hlt)
        unfold Oper.wpIn
        refine ⟨fun _ _ => trivial, ?_⟩
        rw [show Fence.wide.round = none from rfl, Oper.semAt_none]
        go_simp
        refine hR.mono ?_
        rintro e w3 ⟨rfl, hJ3, hk3⟩
        have hS3 := hS2.keep hk3
        refine hK _ _ hS3 (fun _ => ?_)
        clear hK K hk3 hR hy hJ2 hS2 hbp
        refine AnyIn.pick (by kernel_rfl) Only.panic (w := w3) hS3 [10, 11] 0 _ _ (by kernel_rfl) ?_
        refine PickOk.value (d := some 20) (v := .bool false) rfl rfl (by kernel_rfl) (fun U hU => (by go_simp)) ?_
        refine PickOk.value (d := some 21) (v := .bool false) rfl rfl (by kernel_rfl) (fun U hU => (by go_simp)) ?_
        simp only [PickOk, Act.put, List.setIfInBounds_toArray, List.set_cons_zero, List.set_cons_succ]
        refine AnyIn.done (by kernel_rfl) ?_ _
        refine Only.next ?_
        have HJ3 := Lib.hid hJ3; have HS3 := Lib.hid hS3
        clear hJ3 hS3
        gi_wp2_with fail
        go_roundw
        case rel => exact ⟨p + 1, by omega, by go_num, HJ3.out, HS3.out⟩
        case measure => simp [intOf]; omega
    · obtain rfl : p = n := by omega
      have hje := HJr.out
      rw [Ma.nw_end (Nat.le_refl p)] at hje
      have HJE := Lib.hid hje; clear hje
      gi_wp2_with fail
      go_end0
      exact ⟨⟨_, rfl⟩, p, by simp, HJE.out⟩
theorem infoL : (Try.prog.info? 60).map (fun i => (i.zero, i.size, i.bytes)) = some (some (.agg #[.string ByteArray.empty, .string ByteArray.empty]), 2, 32) := by kernel_rfl
set_option maxRecDepth 100000 in
set_option maxHeartbeats 2000000 in
theorem pickL_any (A : Option Addr) (n c : Nat) (hn : n ≤ 1000000) (x : Nat → Nat → Value) (hx : ∀ i j, (x i j).oneCell' = true) (fv : FuncId) (cap : Array Value) (b : Nat → Bool)
    (he : ∀ args w, (callFunc fv args).run Try.prog w = .ok (.enter fv args) w) (w : World) (hA : Row 2 x w A n)
    (hw : ∀ W, Below w.heap.size w W → ∀ i, i < n → Calls Try.prog fv (#[.agg #[x i 0, x i 1]] ++ cap) W (fun e W2 => e = .returned (.bool (b i)) ∧ Below W.heap.size W W2)) :
    Calls Try.prog 74 #[.slice A n c, .func (.func fv) #[] cap] w (Picks 60 2 (fun i => [x i 0, x i 1]) (Ma.sel b n) w) := by
  obtain ⟨i0, hi0, hz0, hz1, hz2⟩ := info_parts infoL
  have HA := Lib.hid hA
  refine (callsIn_wide (n := 3)).1 ?_
  refine callsIn_of_wp_marks Try.func74 rfl trivial ?_ rfl
  simp only [Try.ntmps74, List.size_toArray, List.length_cons, List.length_nil, Nat.reduceAdd, Nat.reduceSub, Array.replicate_succ, Array.replicate_zero, List.push_toArray, List.append_toArray, List.nil_append, List.cons_append]
  refine wpIn_wide.2 ?_
  go_wp2_with fail
  have h2 := f_two_heap w (.cells #[.slice A n c] 35) (.cells #[.slice none 0 0] 35)
  generalize (w.alloc (.cells #[.slice A n c] 35)).alloc (.cells #[.slice none 0 0] 35) = w2 at *
  obtain ⟨h20, h21, z2, hk2, hg2⟩ := h2
  refine (placesL_any A n c fv cap _).mono ?_; rintro e w4 ⟨rfl, hw4⟩
  have h4 := f_two_heap w2 (.cells #[.slice A n c] 35) (.cells #[.func (.func fv) #[] cap] 133)
  rw [← hw4] at h4
  clear hw4
  obtain ⟨h42, h43, z4, hk4, hg4⟩ := h4
  rw [z2] at h42 h43 z4 hk4 ⊢
  have hpin : PIn w (w.heap.size + 2) (.slice A n c) (.func (.func fv) #[] cap) 35 133 w4 := ⟨by omega, (Below.refl w.heap.size w).grown (grown_trans hg2 hg4) (Nat.le_refl _) (fun r e => by cases e), h42, h43⟩
  obtain ⟨q1, q2, q3, q4⟩ := Ma.nw_spec b (Nat.zero_le n)
  have start : PickAt w w (.slice A n c) 35 35 60 2 (.slice A n c) (.func (.func fv) #[] cap) 35 133 (fun i => [x i 0, x i 1]) b n (Ma.nw b n 0) w4 :=
    ⟨⟨.slice none 0 0, (hk4 _ (by omega)).trans h21, by rw [q3]; exact World.ownsRow_nil _ _ _ _⟩, (hk4 _ (by omega)).trans h20, hpin, by omega, by omega, q2, q4⟩
  have ST := Lib.hid start
  clear start hk2 hk4 hg2 hg4 h20 h21 h42 h43 q1 q2 q3 q4
  go_wp2_with fail
  refine (wpIn_wide (n := 3)).1 ?_
  refine' rangeN (gf := 89) (lb := #[.pointer (some ⟨w.heap.size + 2, 0, none⟩), .pointer (some ⟨w.heap.size + 2 + 1, 0, none⟩)]) rfl (enters_of Try.func89 (by kernel_rfl) rfl)
    (placesL_hands w A n c (by unfold maxLen; omega) x hA fv cap b hw he (w.heap.size + 2) w4 hpin) (fun h k => h.trans k) ?ka ?kb (fun _ => rfl) (PickAt w w (.slice A n c) 35 35 60 2 (.slice A n c) (.func (.func fv) #[] cap) 35 133 (fun i => [x i 0, x i 1]) b n) ?hI ST.out _ ?assign ?body ?done
  case ka =>
    intro o1 o2 _ _
    have t := f_two_heap w4 o1 o2
    exact ⟨(Below.refl _ _).grown t.2.2.2.2 (by omega) (fun r e => by cases e), t.2.2.2.1 _ (by omega), t.2.2.2.1 _ (by omega)⟩
  case kb =>
    intro W l o o2 hl ho _
    have hlt := (Array.getElem?_eq_some_iff.1 ho).1
    exact ⟨(Below.refl _ _).grown (grownBy_putObj' W l o2) (by omega) (fun r e => by cases e; omega), f_putObj_other _ _ _ _ (by omega), f_putObj_other _ _ _ _ (by omega)⟩
  case hI =>
    intro s W W2 row h hg hr
    exact h.kept hg (fun r e => ⟨by have := (hr r e).1; omega, (hr r e).2⟩)
  case assign =>
    intro l s W K hK
    gi_wp2
    exact hK
  case body =>
    intro l s W hi hmr
    have hlt : s < n := of_decide_eq_true hmr
    have hbs : b s = true := hi.want hlt
    obtain ⟨o, h1, h2⟩ := hi.ex
    have hend := fun o' W1 => pick_end (W := W.drew) (o' := o') (W1 := W1) (ob := .cells #[x s 0, x s 1] 60) ⟨⟨o, h1, h2⟩, hi.box, hi.pin.drew, hi.low, hi.size, hi.le, hi.want⟩ hlt hbs h1 h2
    have c0 : W.drew.cell? ⟨w.heap.size, 0, none⟩ = some (.slice A n c) := cell_of_row _ _ _ _ _ _ hi.box
    have c1 : W.drew.cell? ⟨w.heap.size + 1, 0, none⟩ = some o := cell_of_row _ _ _ _ _ _ h1
    obtain ⟨ad, rfl, hc0, hc⟩ := HA.out.at_ hi.pin.drew.bel hlt
    have hsz := hi.size
    have hsl := Ma.sel_length b s
    have j1 : (s : Int) < (n : Int) := by omega
    have j0 : (0 : Int) ≤ (s : Int) := by omega
    have h2d : W.drew.ownsRow (w.heap.size + 4) 60 2 o (Ma.sel b s).length ((Ma.sel b s).flatMap (fun i => [x i 0, x i 1])) := h2
    have hvb : ∀ k, o.ownBlock = some k → w.heap.size + 4 ≤ k := fun k hk => (h2.lt k hk).1
    have hfacts : ∀ (w1 : World), (W.drew.alloc (.cells #[x s 0, x s 1] 60)).grownBy w1 o.ownBlock → w1.cell? ⟨w.heap.size + 1, 0, none⟩ = some o ∧ w1.frozen? ⟨w.heap.size + 1, 0, none⟩ = false := fun w1 hgrow => by
      have hlow1 : w1.heap[w.heap.size + 1]? = W.heap[w.heap.size + 1]? := (hgrow.block _ (by simp; omega) (fun e => by have := hvb _ e.symm; omega)).trans (Below.heap_alloc W.drew _ _ (by show _ < W.heap.size; omega))
      exact ⟨cell_of_row _ _ _ _ _ _ (hlow1.trans h1), frozen_of_row _ _ _ _ _ (hlow1.trans h1)⟩
    have hb1 : (Ma.sel b s).length + 1 ≤ maxLen := by unfold maxLen; omega
    have hb2 : ((Ma.sel b s).length + 1) * 32 ≤ 140737488355328 := by omega
    have hb3 : w.heap.size + 4 ≤ (W.drew.alloc (.cells #[x s 0, x s 1] 60)).heap.size := by simp; omega
    have HI := Lib.hid hi; have HEND := Lib.hid hend; have HF := Lib.hid hfacts; have HB1 := Lib.hid hb1; have HB2 := Lib.hid hb2; have HB3 := Lib.hid hb3; have H2 := Lib.hid h2d; have HDR : Hid (W.drew.heap = W.heap) := Lib.hid rfl
    have HKB : Hid (∀ X, KeepsFrom (w.heap.size + 4) W.drew X → KeepsFrom (w.heap.size + 4) W X) := Lib.hid (fun X h => ⟨h.size, h.same⟩)
    have HPK : Hid (∀ X, PKeep w.heap.size (w.heap.size + 2) W.drew X → PKeep w.heap.size (w.heap.size + 2) W X) := Lib.hid (fun X h => ⟨⟨h.1.os, h.1.tape, h.1.output, h.1.size, h.1.block⟩, h.2.1, h.2.2⟩)
    have HX := Lib.hid hx; have HVB := Lib.hid hvb
    have hS : PickS w (.slice (some ad) n c) 35 W.drew := ⟨hi.pin.bel.drew, hi.box⟩
    clear hi hmr ST h1 h2 h2d hend hfacts hb1 hb2 hb3 hvb hc0 hc hsl hx hpin hA
    gi_wp2_with fail
    refine round_held (fun U => PickS w (.slice (some ad) n c) 35 U) (by kernel_rfl) (by kernel_rfl) ?_
    generalize W.drew = Wd at *
    refine wpAnyH_pick (by kernel_rfl) Only.panic (w := Wd) hS [1, 2, 3, 4] 4 _ _ (by kernel_rfl) ?_
    refine PickOk.value (d := some 12) (v := .slice (some ad) n c) rfl rfl (by kernel_rfl) (fun U hU => (by have c9 := hU.at_box; go_simp)) ?_
    refine PickOk.value (d := some 13) (v := .int .i64 s) rfl rfl (by kernel_rfl) (fun U hU => (by go_simp)) ?_
    refine PickOk.value (d := some 14) (v := .pointer (some (ad.add (s * 2)))) rfl rfl (by kernel_rfl) (fun U hU => (by go_simp)) ?_
    refine PickOk.value (d := some 15) (v := .agg #[x s 0, x s 1]) rfl rfl (by kernel_rfl) (fun U hU => (by obtain ⟨ad2, e, hc0, hc⟩ := HA.out.at_ hU.bel hlt; cases e; have c0 := hc0 (by omega); have c1 := hc 1 (by omega) (by omega); go_simp)) ?_
    simp only [PickOk, Act.put, List.setIfInBounds_toArray, List.set_cons_zero, List.set_cons_succ]
    have hS5 := hS.later ((Below.refl _ _).alloc (Nat.le_refl _) (.cells #[x s 0, x s 1] 60))
    have e0 : (Wd.alloc (.cells #[x s 0, x s 1] 60)).cell? ⟨w.heap.size + 1, 0, none⟩ = some o := cell_keep c1 ((Below.refl _ _).alloc (Nat.le_refl _) _)
    refine wpAnyH_two (i := 0) (j := 5) (by kernel_rfl) rfl rfl (by kernel_rfl) (by kernel_rfl) ?_ ?_
    · intro K hK
      unfold Oper.wp
      go_simp
      refine hK _ _ hS (fun _ => ?_)
      clear hK K
      refine wpAnyH_one (i := 5) (by kernel_rfl) rfl (by kernel_rfl) ?_
      intro K hK
      unfold Oper.wp
      go_simp
      refine hK _ _ hS5 (fun _ => ?_)
      clear hK K
      refine wpAnyH_one (i := 6) (by kernel_rfl) rfl (by kernel_rfl) ?_
      intro K hK
      refine wp_append_own _ _ _ 35 rfl (w.heap.size + 4) 60 i0 (.agg #[.string ByteArray.empty, .string ByteArray.empty]) 2 32 Try.underlying35 hi0 hz0 hz1 hz2 rfl (by decide) _ _ _ rfl (H2.out.alloc _) ⟨Wd.heap.size, 0, none⟩ 1 1 [x s 0, x s 1] rfl rfl (cells_new _ _ _) (by simp [HX.out]) HB1.out HB2.out HB3.out ?_
      intro o' w1 hown' hgrow _
      obtain ⟨g', cap', rfl⟩ := ownsRow_succ hown'
      obtain ⟨e1, f1⟩ := HF.out w1 hgrow
      have HFIN := Lib.hid (HEND.out _ w1 hown' hgrow)
      have hS6 := hS5.grown hgrow (fun r hr => HVB.out r hr)
      clear hown' hgrow
      refine hK _ _ hS6 (fun _ => ?_)
      clear hK K
      refine wpAnyH_one (i := 7) (by kernel_rfl) rfl (by kernel_rfl) ?_
      intro K hK
      unfold Oper.wp
      go_simp
      refine hK _ _ (hS6.out_ _) (fun _ => ?_)
      clear hK K
      refine wpAnyH_done (by kernel_rfl) ?_ _
      refine only_mk ?_
      gi_wp2_with fail
      obtain ⟨z1, z2, z3⟩ := HFIN.out
      rw [z4]
      exact ⟨HKB.out _ z1, HPK.out _ z2, z3⟩
    · intro K hK
      unfold Oper.wp
      go_simp
      refine hK _ _ hS5 (fun _ => ?_)
      clear hK K
      refine wpAnyH_one (i := 0) (by kernel_rfl) rfl (by kernel_rfl) ?_
      intro K hK
      unfold Oper.wp
      go_simp
      refine hK _ _ hS5 (fun _ => ?_)
      clear hK K
      refine wpAnyH_one (i := 6) (by kernel_rfl) rfl (by kernel_rfl) ?_
      intro K hK
      refine wp_append_own _ _ _ 35 rfl (w.heap.size + 4) 60 i0 (.agg #[.string ByteArray.empty, .string ByteArray.empty]) 2 32 Try.underlying35 hi0 hz0 hz1 hz2 rfl (by decide) _ _ _ rfl (H2.out.alloc _) ⟨Wd.heap.size, 0, none⟩ 1 1 [x s 0, x s 1] rfl rfl (cells_new _ _ _) (by simp [HX.out]) HB1.out HB2.out HB3.out ?_
      intro o' w1 hown' hgrow _
      obtain ⟨g', cap', rfl⟩ := ownsRow_succ hown'
      obtain ⟨e1, f1⟩ := HF.out w1 hgrow
      have HFIN := Lib.hid (HEND.out _ w1 hown' hgrow)
      have hS6 := hS5.grown hgrow (fun r hr => HVB.out r hr)
      clear hown' hgrow
      refine hK _ _ hS6 (fun _ => ?_)
      clear hK K
      refine wpAnyH_one (i := 7) (by kernel_rfl) rfl (by kernel_rfl) ?_
      intro K hK
      unfold Oper.wp
      go_simp
      refine hK _ _ (hS6.out_ _) (fun _ => ?_)
      clear hK K
      refine wpAnyH_done (by kernel_rfl) ?_ _
      refine only_mk ?_
      gi_wp2_with fail
      obtain ⟨z1, z2, z3⟩ := HFIN.out
      rw [z4]
      exact ⟨HKB.out _ z1, HPK.out _ z2, z3⟩
  case done =>
    intro D s W hD hmr hi hK
    have hge : n ≤ s := Nat.le_of_not_lt (of_decide_eq_false hmr)
    obtain rfl : s = n := by have := hi.le; omega
    obtain ⟨o, h1, h2⟩ := hi.ex
    have c1 : W.cell? ⟨w.heap.size + 1, 0, none⟩ = some o := cell_of_row _ _ _ _ _ _ h1
    have hsz := hi.size
    have HI := Lib.hid hi; have HK := Lib.hid hK; have H2 := Lib.hid h2
    clear hi hK h2 h1 hmr ST hge hpin
    go_wp2_with fail
    refine ⟨by simp, .inl ⟨_, _, rfl, run_takeDeferred HK.out, ?_⟩⟩
    have hk := HI.out.kept (grownBy_putObj' W D (.deferred none)) (fun r e => by cases e; exact ⟨by omega, _, HK.out, rfl⟩)
    have hown := H2.out.kept (grownBy_putObj' W D (.deferred none)) (by cases hv : o.ownBlock with
      | none => exact .inl rfl
      | some k => exact .inr (fun e => by cases e; have := own_cells H2.out hv HK.out; cases this))
    exact ⟨o, by simp [results, Try.results74, go_sem], o, rfl, own_from hown (by omega), hk.pin.bel⟩
end Go.Proofs.Ytidfanmfibbiiaa
/-
  What the functions of package match come to: places and pick, over api.Matcher.
-/
namespace Go.Proofs.Ytidfanmfibbiiaa
open Go.RowKit Go.Shelf
attribute [local go_sem] Oper.semAt_some

theorem placesX_any (A : Option Addr) (n c : Nat) (fv : FuncId) (cap : Array Value) (w : World) : Calls Try.prog 71 #[.slice A n c, .func (.func fv) #[] cap] w fun e w' =>
    e = .returned (.func (.func 83) #[] #[.pointer (some ⟨w.heap.size, 0, none⟩), .pointer (some ⟨w.heap.size + 1, 0, none⟩)]) ∧ w' = (w.alloc (.cells #[.slice A n c] 36)).alloc (.cells #[.func (.func fv) #[] cap] 107) := by
  go_enter Try.func71, Try.ntmps71
  go_wp2_with fail
  go_ret
  exact ⟨rfl, rfl⟩

set_option maxRecDepth 100000 in
set_option maxHeartbeats 2000000 in
theorem placesX_hands (w0 : World) (A : Option Addr) (n c : Nat) (hn : n ≤ maxLen) (x : Nat → Nat → Value) (hA : Row 3 x w0 A n) (fv : FuncId) (cap : Array Value) (b : Nat → Bool)
    (hw : ∀ W, Below w0.heap.size w0 W → ∀ i, i < n → Calls Try.prog fv (#[.agg #[x i 0, x i 1, x i 2]] ++ cap) W (fun e W2 => e = .returned (.bool (b i)) ∧ Below W.heap.size W W2))
    (he : ∀ args w, (callFunc fv args).run Try.prog w = .ok (.enter fv args) w)
    (g : Nat) (w : World) (hbx : PIn w0 g (.slice A n c) (.func (.func fv) #[] cap) 36 107 w) :
    Hands Try.prog 83 #[.pointer (some ⟨g, 0, none⟩), .pointer (some ⟨g + 1, 0, none⟩)] (fun s : Nat => #[.int .i64 s]) (fun s => decide (s < n)) (fun s => Ma.nw b n (s + 1)) (PKeep w0.heap.size g) (Ma.nw b n 0) w := by
  intro l J W hK _ hJ hY h0
  have hB := hbx.keep hK
  unfold maxLen at hn
  obtain ⟨b1, b2⟩ := hB.cells
  refine callsIn_of_wp Try.func83 rfl trivial ?_ rfl
  simp only [Try.ntmps83, List.size_toArray, List.length_cons, List.length_nil, Nat.reduceAdd, Nat.reduceSub, Array.replicate_succ, Array.replicate_zero, List.push_toArray, List.append_toArray, List.nil_append, List.cons_append]
  have HB := Lib.hid hB; have HJ0 := Lib.hid h0; have HA := Lib.hid hA; have HW := Lib.hid hw; clear hB h0 hbx hK hA hw
  have HJ := Lib.hid hJ; have HY := Lib.hid hY; have HE := Lib.hid he; clear hJ hY he
  gi_wp2_with fail
  gi_loopw [7] (fun i wr => ∃ p : Nat, p ≤ n ∧ i = .int .i64 p ∧ J (Ma.nw b n p) wr ∧ PIn w0 g (.slice A n c) (.func (.func fv) #[] cap) 36 107 wr) (fun i _ => n - (intOf i).toNat)
  case atStart => exact ⟨0, Nat.zero_le _, rfl, HJ0.out, HB.out⟩
  case round =>
    obtain ⟨p, hp, rfl, hj, hb⟩ := hrel
    have HBr := Lib.hid hb; have HJr := Lib.hid hj; clear hb hj
    clear b1 b2
    by_cases hlt : p < n
    · have i1 : (p : Int) < (n : Int) := by omega
      have i0 : (0 : Int) ≤ (p : Int) := by omega
      obtain ⟨ad, rfl, -⟩ := HA.out.at_ HBr.out.bel hlt
      have hS : PIn w0 g (.slice (some ad) n c) (.func (.func fv) #[] cap) 36 107 wr.drew := HBr.out.drew
      have hJd : J (Ma.nw b n p) wr.drew := HJ.out _ _ _ HJr.out (grown_drew (grown_refl wr none))
      have hcall := fun W (hW : PIn w0 g (.slice (some ad) n c) (.func (.func fv) #[] cap) 36 107 W) => HW.out W hW.bel p hlt
      have HJd := Lib.hid hJd; have HC := Lib.hid hcall
      clear hJd HJr HBr hcall HB HJ0 HW
      gi_wp2_with fail
      refine iter_held (fun U => PIn w0 g (.slice (some ad) n c) (.func (.func fv) #[] cap) 36 107 U) (by kernel_rfl) ?_
      generalize wr.drew = wd at *
      refine AnyIn.pick (by kernel_rfl) Only.panic (w := wd) hS [0, 1, 2, 3, 4] 7 _ _ (by kernel_rfl) ?_
      refine PickOk.value (d := some 10) (v := .func (.func fv) #[] cap) rfl rfl (by kernel_rfl) (fun U hU => (by obtain ⟨b1, b2⟩ := hU.cells; go_simp)) ?_
      refine PickOk.value (d := some 11) (v := .slice (some ad) n c) rfl rfl (by kernel_rfl) (fun U hU => (by obtain ⟨b1, b2⟩ := hU.cells; go_simp)) ?_
      refine PickOk.value (d := some 12) (v := .int .i64 p) rfl rfl (by kernel_rfl) (fun U hU => (by go_simp)) ?_
      refine PickOk.value (d := some 13) (v := .pointer (some (ad.add (p * 3)))) rfl rfl (by kernel_rfl) (fun U hU => (by go_simp)) ?_
      refine PickOk.value (d := some 14) (v := .agg #[x p 0, x p 1, x p 2]) rfl rfl (by kernel_rfl) (fun U hU => (by obtain ⟨ad2, e, hc0, hc⟩ := HA.out.at_ hU.bel hlt; cases e; have c0 := hc0 (by omega); have c1 := hc 1 (by omega) (by omega); have c2 := hc 2 (by omega) (by omega); go_simp)) ?_
      simp only [PickOk, Act.put, List.setIfInBounds_toArray, List.set_cons_zero, List.set_cons_succ]
      refine AnyIn.one (i := 5) (by kernel_rfl) rfl (by kernel_rfl) ?_
      intro K hK
      have he2 := HE.out
      unfold Oper.wpIn
      refine ⟨fun _ _ => trivial, ?_⟩
      rw [show Fence.wide.round = none from rfl, Oper.semAt_none]
      go_simp
      refine (callsIn_wide.2 (HC.out wd hS)).mono ?_
      rintro e w2 ⟨rfl, hb2⟩
      have hS2 := hS.later hb2
      have hJ2 := HJ.out _ _ _ HJd.out (grown_of_below hb2)
      refine hK _ _ hS2 (fun _ => ?_)
      clear hK K he2 hb2 hS
      cases hbp : b p with
      | false =>
        refine AnyIn.pick (by kernel_rfl) Only.panic (w := w2) hS2 [6, 7, 8, 9, 10, 11] 0 _ _ (by kernel_rfl) ?_
        refine PickOk.value (d := some 16) (v := .bool false) rfl rfl (by kernel_rfl) (fun U hU => (by go_simp)) ?_
        refine pick_skip (d := some 17) rfl rfl (by kernel_rfl) ?_
        refine pick_skip (d := some 18) rfl rfl (by kernel_rfl) ?_
        refine pick_skip (d := some 19) rfl rfl (by kernel_rfl) ?_
        refine pick_skip (d := some 20) rfl rfl (by kernel_rfl) ?_
        refine PickOk.value (d := some 21) (v := .bool false) rfl rfl (by kernel_rfl) (fun U hU => (by go_simp)) ?_
        simp only [PickOk, Act.put, List.setIfInBounds_toArray, List.set_cons_zero, List.set_cons_succ]
        refine AnyIn.done (by kernel_rfl) ?_ _
        refine Only.next ?_
        rw [Ma.nw_no hlt hbp] at hJ2
        have HJ2 := Lib.hid hJ2; have HS2 := Lib.hid hS2
        clear hJ2 hS2 hbp
        gi_wp2_with fail
        go_roundw
        case rel => exact ⟨p + 1, by omega, by go_num, HJ2.out, HS2.out⟩
        case measure => simp [intOf]; omega
      | true =>
        rw [Ma.nw_yes hlt hbp] at hJ2
        refine AnyIn.pick (by kernel_rfl) Only.panic (w := w2) hS2 [6, 7, 8] 3 _ _ (by kernel_rfl) ?_
        refine PickOk.value (d := some 16) (v := .bool true) rfl rfl (by kernel_rfl) (fun U hU => (by go_simp)) ?_
        refine PickOk.value (d := some 17) (v := .func (.yield l) #[] #[]) rfl rfl (by kernel_rfl) (fun U hU => (by go_simp)) ?_
        refine PickOk.value (d := some 18) (v := .int .i64 p) rfl rfl (by kernel_rfl) (fun U hU => (by go_simp)) ?_
        simp only [PickOk, Act.put, List.setIfInBounds_toArray, List.set_cons_zero, List.set_cons_succ]
        refine AnyIn.one (i := 9) (by kernel_rfl) rfl (by kernel_rfl) ?_
        intro K hK
        obtain ⟨fn, tmps, assign, body, hy, hR⟩ := HY.out p w2 hJ2 (by simpa using hlt)
        unfold Oper.wpIn
        refine ⟨fun _ _ => trivial, ?_⟩
        rw [show Fence.wide.round = none from rfl, Oper.semAt_none]
        go_simp
        refine hR.mono ?_
        rintro e w3 ⟨rfl, hJ3, hk3⟩
        have hS3 := hS2.keep hk3
        refine hK _ _ hS3 (fun _ => ?_)
        clear hK K hk3 hR hy hJ2 hS2 hbp
        refine AnyIn.pick (by kernel_rfl) Only.panic (w := w3) hS3 [10, 11] 0 _ _ (by kernel_rfl) ?_
        refine PickOk.value (d := some 20) (v := .bool false) rfl rfl (by kernel_rfl) (fun U hU => (by go_simp)) ?_
        refine PickOk.value (d := some 21) (v := .bool false) rfl rfl (by kernel_rfl) (fun U hU => (by go_simp)) ?_
        simp only [PickOk, Act.put, List.setIfInBounds_toArray, List.set_cons_zero, List.set_cons_succ]
        refine AnyIn.done (by kernel_rfl) ?_ _
        refine Only.next ?_
        have HJ3 := Lib.hid hJ3; have HS3 := Lib.hid hS3
        clear hJ3 hS3
        gi_wp2_with fail
        go_roundw
        case rel => exact ⟨p + 1, by omega, by go_num, HJ3.out, HS3.out⟩
        case measure => simp [intOf]; omega
    · obtain rfl : p = n := by omega
      have hje := HJr.out
      rw [Ma.nw_end (Nat.le_refl p)] at hje
      have HJE := Lib.hid hje; clear hje
      gi_wp2_with fail
      go_end0
      exact ⟨⟨_, rfl⟩, p, by simp, HJE.out⟩
theorem infoX : (Try.prog.info? 79).map (fun i => (i.zero, i.size, i.bytes)) = some (some (.agg #[.int .i64 0, .string ByteArray.empty, .string ByteArray.empty]), 3, 40) := by kernel_rfl
set_option maxRecDepth 100000 in
set_option maxHeartbeats 2000000 in
theorem pickX_any (A : Option Addr) (n c : Nat) (hn : n ≤ 1000000) (x : Nat → Nat → Value) (hx : ∀ i j, (x i j).oneCell' = true) (fv : FuncId) (cap : Array Value) (b : Nat → Bool)
    (he : ∀ args w, (callFunc fv args).run Try.prog w = .ok (.enter fv args) w) (w : World) (hA : Row 3 x w A n)
    (hw : ∀ W, Below w.heap.size w W → ∀ i, i < n → Calls Try.prog fv (#[.agg #[x i 0, x i 1, x i 2]] ++ cap) W (fun e W2 => e = .returned (.bool (b i)) ∧ Below W.heap.size W W2)) :
    Calls Try.prog 56 #[.slice A n c, .func (.func fv) #[] cap] w (Picks 79 3 (fun i => [x i 0, x i 1, x i 2]) (Ma.sel b n) w) := by
  obtain ⟨i0, hi0, hz0, hz1, hz2⟩ := info_parts infoX
  have HA := Lib.hid hA
  refine (callsIn_wide (n := 3)).1 ?_
  refine callsIn_of_wp_marks Try.func56 rfl trivial ?_ rfl
  simp only [Try.ntmps56, List.size_toArray, List.length_cons, List.length_nil, Nat.reduceAdd, Nat.reduceSub, Array.replicate_succ, Array.replicate_zero, List.push_toArray, List.append_toArray, List.nil_append, List.cons_append]
  refine wpIn_wide.2 ?_
  go_wp2_with fail
  have h2 := f_two_heap w (.cells #[.slice A n c] 36) (.cells #[.slice none 0 0] 36)
  generalize (w.alloc (.cells #[.slice A n c] 36)).alloc (.cells #[.slice none 0 0] 36) = w2 at *
  obtain ⟨h20, h21, z2, hk2, hg2⟩ := h2
  refine (placesX_any A n c fv cap _).mono ?_; rintro e w4 ⟨rfl, hw4⟩
  have h4 := f_two_heap w2 (.cells #[.slice A n c] 36) (.cells #[.func (.func fv) #[] cap] 107)
  rw [← hw4] at h4
  clear hw4
  obtain ⟨h42, h43, z4, hk4, hg4⟩ := h4
  rw [z2] at h42 h43 z4 hk4 ⊢
  have hpin : PIn w (w.heap.size + 2) (.slice A n c) (.func (.func fv) #[] cap) 36 107 w4 := ⟨by omega, (Below.refl w.heap.size w).grown (grown_trans hg2 hg4) (Nat.le_refl _) (fun r e => by cases e), h42, h43⟩
  obtain ⟨q1, q2, q3, q4⟩ := Ma.nw_spec b (Nat.zero_le n)
  have start : PickAt w w (.slice A n c) 36 36 79 3 (.slice A n c) (.func (.func fv) #[] cap) 36 107 (fun i => [x i 0, x i 1, x i 2]) b n (Ma.nw b n 0) w4 :=
    ⟨⟨.slice none 0 0, (hk4 _ (by omega)).trans h21, by rw [q3]; exact World.ownsRow_nil _ _ _ _⟩, (hk4 _ (by omega)).trans h20, hpin, by omega, by omega, q2, q4⟩
  have ST := Lib.hid start
  clear start hk2 hk4 hg2 hg4 h20 h21 h42 h43 q1 q2 q3 q4
  go_wp2_with fail
  refine (wpIn_wide (n := 3)).1 ?_
  refine' rangeN (gf := 83) (lb := #[.pointer (some ⟨w.heap.size + 2, 0, none⟩), .pointer (some ⟨w.heap.size + 2 + 1, 0, none⟩)]) rfl (enters_of Try.func83 (by kernel_rfl) rfl)
    (placesX_hands w A n c (by unfold maxLen; omega) x hA fv cap b hw he (w.heap.size + 2) w4 hpin) (fun h k => h.trans k) ?ka ?kb (fun _ => rfl) (PickAt w w (.slice A n c) 36 36 79 3 (.slice A n c) (.func (.func fv) #[] cap) 36 107 (fun i => [x i 0, x i 1, x i 2]) b n) ?hI ST.out _ ?assign ?body ?done
  case ka =>
    intro o1 o2 _ _
    have t := f_two_heap w4 o1 o2
    exact ⟨(Below.refl _ _).grown t.2.2.2.2 (by omega) (fun r e => by cases e), t.2.2.2.1 _ (by omega), t.2.2.2.1 _ (by omega)⟩
  case kb =>
    intro W l o o2 hl ho _
    have hlt := (Array.getElem?_eq_some_iff.1 ho).1
    exact ⟨(Below.refl _ _).grown (grownBy_putObj' W l o2) (by omega) (fun r e => by cases e; omega), f_putObj_other _ _ _ _ (by omega), f_putObj_other _ _ _ _ (by omega)⟩
  case hI =>
    intro s W W2 row h hg hr
    exact h.kept hg (fun r e => ⟨by have := (hr r e).1; omega, (hr r e).2⟩)
  case assign =>
    intro l s W K hK
    gi_wp2
    exact hK
  case body =>
    intro l s W hi hmr
    have hlt : s < n := of_decide_eq_true hmr
    have hbs : b s = true := hi.want hlt
    obtain ⟨o, h1, h2⟩ := hi.ex
    have hend := fun o' W1 => pick_end (W := W.drew) (o' := o') (W1 := W1) (ob := .cells #[x s 0, x s 1, x s 2] 79) ⟨⟨o, h1, h2⟩, hi.box, hi.pin.drew, hi.low, hi.size, hi.le, hi.want⟩ hlt hbs h1 h2
    have c0 : W.drew.cell? ⟨w.heap.size, 0, none⟩ = some (.slice A n c) := cell_of_row _ _ _ _ _ _ hi.box
    have c1 : W.drew.cell? ⟨w.heap.size + 1, 0, none⟩ = some o := cell_of_row _ _ _ _ _ _ h1
    obtain ⟨ad, rfl, hc0, hc⟩ := HA.out.at_ hi.pin.drew.bel hlt
    have hsz := hi.size
    have hsl := Ma.sel_length b s
    have j1 : (s : Int) < (n : Int) := by omega
    have j0 : (0 : Int) ≤ (s : Int) := by omega
    have h2d : W.drew.ownsRow (w.heap.size + 4) 79 3 o (Ma.sel b s).length ((Ma.sel b s).flatMap (fun i => [x i 0, x i 1, x i 2])) := h2
    have hvb : ∀ k, o.ownBlock = some k → w.heap.size + 4 ≤ k := fun k hk => (h2.lt k hk).1
    have hfacts : ∀ (w1 : World), (W.drew.alloc (.cells #[x s 0, x s 1, x s 2] 79)).grownBy w1 o.ownBlock → w1.cell? ⟨w.heap.size + 1, 0, none⟩ = some o ∧ w1.frozen? ⟨w.heap.size + 1, 0, none⟩ = false := fun w1 hgrow => by
      have hlow1 : w1.heap[w.heap.size + 1]? = W.heap[w.heap.size + 1]? := (hgrow.block _ (by simp; omega) (fun e => by have := hvb _ e.symm; omega)).trans (Below.heap_alloc W.drew _ _ (by show _ < W.heap.size; omega))
      exact ⟨cell_of_row _ _ _ _ _ _ (hlow1.trans h1), frozen_of_row _ _ _ _ _ (hlow1.trans h1)⟩
    have hb1 : (Ma.sel b s).length + 1 ≤ maxLen := by unfold maxLen; omega
    have hb2 : ((Ma.sel b s).length + 1) * 40 ≤ 140737488355328 := by omega
    have hb3 : w.heap.size + 4 ≤ (W.drew.alloc (.cells #[x s 0, x s 1, x s 2] 79)).heap.size := by simp; omega
    have HI := Lib.hid hi; have HEND := Lib.hid hend; have HF := Lib.hid hfacts; have HB1 := Lib.hid hb1; have HB2 := Lib.hid hb2; have HB3 := Lib.hid hb3; have H2 := Lib.hid h2d; have HDR : Hid (W.drew.heap = W.heap) := Lib.hid rfl
    have HKB : Hid (∀ X, KeepsFrom (w.heap.size + 4) W.drew X → KeepsFrom (w.heap.size + 4) W X) := Lib.hid (fun X h => ⟨h.size, h.same⟩)
    have HPK : Hid (∀ X, PKeep w.heap.size (w.heap.size + 2) W.drew X → PKeep w.heap.size (w.heap.size + 2) W X) := Lib.hid (fun X h => ⟨⟨h.1.os, h.1.tape, h.1.output, h.1.size, h.1.block⟩, h.2.1, h.2.2⟩)
    have HX := Lib.hid hx; have HVB := Lib.hid hvb
    have hS : PickS w (.slice (some ad) n c) 36 W.drew := ⟨hi.pin.bel.drew, hi.box⟩
    clear hi hmr ST h1 h2 h2d hend hfacts hb1 hb2 hb3 hvb hc0 hc hsl hx hpin hA
    gi_wp2_with fail
    refine round_held (fun U => PickS w (.slice (some ad) n c) 36 U) (by kernel_rfl) (by kernel_rfl) ?_
    generalize W.drew = Wd at *
    refine wpAnyH_pick (by kernel_rfl) Only.panic (w := Wd) hS [1, 2, 3, 4] 4 _ _ (by kernel_rfl) ?_
    refine PickOk.value (d := some 12) (v := .slice (some ad) n c) rfl rfl (by kernel_rfl) (fun U hU => (by have c9 := hU.at_box; go_simp)) ?_
    refine PickOk.value (d := some 13) (v := .int .i64 s) rfl rfl (by kernel_rfl) (fun U hU => (by go_simp)) ?_
    refine PickOk.value (d := some 14) (v := .pointer (some (ad.add (s * 3)))) rfl rfl (by kernel_rfl) (fun U hU => (by go_simp)) ?_
    refine PickOk.value (d := some 15) (v := .agg #[x s 0, x s 1, x s 2]) rfl rfl (by kernel_rfl) (fun U hU => (by obtain ⟨ad2, e, hc0, hc⟩ := HA.out.at_ hU.bel hlt; cases e; have c0 := hc0 (by omega); have c1 := hc 1 (by omega) (by omega); have c2 := hc 2 (by omega) (by omega); go_simp)) ?_
    simp only [PickOk, Act.put, List.setIfInBounds_toArray, List.set_cons_zero, List.set_cons_succ]
    have hS5 := hS.later ((Below.refl _ _).alloc (Nat.le_refl _) (.cells #[x s 0, x s 1, x s 2] 79))
    have e0 : (Wd.alloc (.cells #[x s 0, x s 1, x s 2] 79)).cell? ⟨w.heap.size + 1, 0, none⟩ = some o := cell_keep c1 ((Below.refl _ _).alloc (Nat.le_refl _) _)
    refine wpAnyH_two (i := 0) (j := 5) (by kernel_rfl) rfl rfl (by kernel_rfl) (by kernel_rfl) ?_ ?_
    · intro K hK
      unfold Oper.wp
      go_simp
      refine hK _ _ hS (fun _ => ?_)
      clear hK K
      refine wpAnyH_one (i := 5) (by kernel_rfl) rfl (by kernel_rfl) ?_
      intro K hK
      unfold Oper.wp
      go_simp
      refine hK _ _ hS5 (fun _ => ?_)
      clear hK K
      refine wpAnyH_one (i := 6) (by kernel_rfl) rfl (by kernel_rfl) ?_
      intro K hK
      refine wp_append_own _ _ _ 36 rfl (w.heap.size + 4) 79 i0 (.agg #[.int .i64 0, .string ByteArray.empty, .string ByteArray.empty]) 3 40 Try.underlying36 hi0 hz0 hz1 hz2 rfl (by decide) _ _ _ rfl (H2.out.alloc _) ⟨Wd.heap.size, 0, none⟩ 1 1 [x s 0, x s 1, x s 2] rfl rfl (cells_new _ _ _) (by simp [HX.out]) HB1.out HB2.out HB3.out ?_
      intro o' w1 hown' hgrow _
      obtain ⟨g', cap', rfl⟩ := ownsRow_succ hown'
      obtain ⟨e1, f1⟩ := HF.out w1 hgrow
      have HFIN := Lib.hid (HEND.out _ w1 hown' hgrow)
      have hS6 := hS5.grown hgrow (fun r hr => HVB.out r hr)
      clear hown' hgrow
      refine hK _ _ hS6 (fun _ => ?_)
      clear hK K
      refine wpAnyH_one (i := 7) (by kernel_rfl) rfl (by kernel_rfl) ?_
      intro K hK
      unfold Oper.wp
      go_simp
      refine hK _ _ (hS6.out_ _) (fun _ => ?_)
      clear hK K
      refine wpAnyH_done (by kernel_rfl) ?_ _
      refine only_mk ?_
      gi_wp2_with fail
      obtain ⟨z1, z2, z3⟩ := HFIN.out
      rw [z4]
      exact ⟨HKB.out _ z1, HPK.out _ z2, z3⟩
    · intro K hK
      unfold Oper.wp
      go_simp
      refine hK _ _ hS5 (fun _ => ?_)
      clear hK K
      refine wpAnyH_one (i := 0) (by kernel_rfl) rfl (by kernel_rfl) ?_
      intro K hK
      unfold Oper.wp
      go_simp
      refine hK _ _ hS5 (fun _ => ?_)
      clear hK K
      refine wpAnyH_one (i := 6) (by kernel_rfl) rfl (by kernel_rfl) ?_
      intro K hK
      refine wp_append_own _ _ _ 36 rfl (w.heap.size + 4) 79 i0 (.agg #[.int .i64 0, .string ByteArray.empty, .string ByteArray.empty]) 3 40 Try.underlying36 hi0 hz0 hz1 hz2 rfl (by decide) _ _ _ rfl (H2.out.alloc _) ⟨Wd.heap.size, 0, none⟩ 1 1 [x s 0, x s 1, x s 2] rfl rfl (cells_new _ _ _) (by simp [HX.out]) HB1.out HB2.out HB3.out ?_
      intro o' w1 hown' hgrow _
      obtain ⟨g', cap', rfl⟩ := ownsRow_succ hown'
      obtain ⟨e1, f1⟩ := HF.out w1 hgrow
      have HFIN := Lib.hid (HEND.out _ w1 hown' hgrow)
      have hS6 := hS5.grown hgrow (fun r hr => HVB.out r hr)
      clear hown' hgrow
      refine hK _ _ hS6 (fun _ => ?_)
      clear hK K
      refine wpAnyH_one (i := 7) (by kernel_rfl) rfl (by kernel_rfl) ?_
      intro K hK
      unfold Oper.wp
      go_simp
      refine hK _ _ (hS6.out_ _) (fun _ => ?_)
      clear hK K
      refine wpAnyH_done (by kernel_rfl) ?_ _
      refine only_mk ?_
      gi_wp2_with fail
      obtain ⟨z1, z2, z3⟩ := HFIN.out
      rw [z4]
      exact ⟨HKB.out _ z1, HPK.out _ z2, z3⟩
  case done =>
    intro D s W hD hmr hi hK
    have hge : n ≤ s := Nat.le_of_not_lt (of_decide_eq_false hmr)
    obtain rfl : s = n := by have := hi.le; omega
    obtain ⟨o, h1, h2⟩ := hi.ex
    have c1 : W.cell? ⟨w.heap.size + 1, 0, none⟩ = some o := cell_of_row _ _ _ _ _ _ h1
    have hsz := hi.size
    have HI := Lib.hid hi; have HK := Lib.hid hK; have H2 := Lib.hid h2
    clear hi hK h2 h1 hmr ST hge hpin
    go_wp2_with fail
    refine ⟨by simp, .inl ⟨_, _, rfl, run_takeDeferred HK.out, ?_⟩⟩
    have hk := HI.out.kept (grownBy_putObj' W D (.deferred none)) (fun r e => by cases e; exact ⟨by omega, _, HK.out, rfl⟩)
    have hown := H2.out.kept (grownBy_putObj' W D (.deferred none)) (by cases hv : o.ownBlock with
      | none => exact .inl rfl
      | some k => exact .inr (fun e => by cases e; have := own_cells H2.out hv HK.out; cases this))
    exact ⟨o, by simp [results, Try.results56, go_sem], o, rfl, own_from hown (by omega), hk.pin.bel⟩
end Go.Proofs.Ytidfanmfibbiiaa
/-
  What the functions of package match come to: places and pick, over api.Sample.
-/
namespace Go.Proofs.Ytidfanmfibbiiaa
open Go.RowKit Go.Shelf
attribute [local go_sem] Oper.semAt_some

theorem placesS_any (A : Option Addr) (n c : Nat) (fv : FuncId) (cap : Array Value) (w : World) : Calls Try.prog 77 #[.slice A n c, .func (.func fv) #[] cap] w fun e w' =>
    e = .returned (.func (.func 86) #[] #[.pointer (some ⟨w.heap.size, 0, none⟩), .pointer (some ⟨w.heap.size + 1, 0, none⟩)]) ∧ w' = (w.alloc (.cells #[.slice A n c] 46)).alloc (.cells #[.func (.func fv) #[] cap] 110) := by
  go_enter Try.func77, Try.ntmps77
  go_wp2_with fail
  go_ret
  exact ⟨rfl, rfl⟩

set_option maxRecDepth 100000 in
set_option maxHeartbeats 2000000 in
theorem placesS_hands (w0 : World) (A : Option Addr) (n c : Nat) (hn : n ≤ maxLen) (x : Nat → Nat → Value) (hA : Row 2 x w0 A n) (fv : FuncId) (cap : Array Value) (b : Nat → Bool)
    (hw : ∀ W, Below w0.heap.size w0 W → ∀ i, i < n → Calls Try.prog fv (#[.agg #[x i 0, x i 1]] ++ cap) W (fun e W2 => e = .returned (.bool (b i)) ∧ Below W.heap.size W W2))
    (he : ∀ args w, (callFunc fv args).run Try.prog w = .ok (.enter fv args) w)
    (g : Nat) (w : World) (hbx : PIn w0 g (.slice A n c) (.func (.func fv) #[] cap) 46 110 w) :
    Hands Try.prog 86 #[.pointer (some ⟨g, 0, none⟩), .pointer (some ⟨g + 1, 0, none⟩)] (fun s : Nat => #[.int .i64 s]) (fun s => decide (s < n)) (fun s => Ma.nw b n (s + 1)) (PKeep w0.heap.size g) (Ma.nw b n 0) w := by
  intro l J W hK _ hJ hY h0
  have hB := hbx.keep hK
  unfold maxLen at hn
  obtain ⟨b1, b2⟩ := hB.cells
  refine callsIn_of_wp Try.func86 rfl trivial ?_ rfl
  simp only [Try.ntmps86, List.size_toArray, List.length_cons, List.length_nil, Nat.reduceAdd, Nat.reduceSub, Array.replicate_succ, Array.replicate_zero, List.push_toArray, List.append_toArray, List.nil_append, List.cons_append]
  have HB := Lib.hid hB; have HJ0 := Lib.hid h0; have HA := Lib.hid hA; have HW := Lib.hid hw; clear hB h0 hbx hK hA hw
  have HJ := Lib.hid hJ; have HY := Lib.hid hY; have HE := Lib.hid he; clear hJ hY he
  gi_wp2_with fail
  gi_loopw [7] (fun i wr => ∃ p : Nat, p ≤ n ∧ i = .int .i64 p ∧ J (Ma.nw b n p) wr ∧ PIn w0 g (.slice A n c) (.func (.func fv) #[] cap) 46 110 wr) (fun i _ => n - (intOf i).toNat)
  case atStart => exact ⟨0, Nat.zero_le _, rfl, HJ0.out, HB.out⟩
  case round =>
    obtain ⟨p, hp, rfl, hj, hb⟩ := hrel
    have HBr := Lib.hid hb; have HJr := Lib.hid hj; clear hb hj
    clear b1 b2
    by_cases hlt : p < n
    · have i1 : (p : Int) < (n : Int) := by omega
      have i0 : (0 : Int) ≤ (p : Int) := by omega
      obtain ⟨ad, rfl, -⟩ := HA.out.at_ HBr.out.bel hlt
      have hS : PIn w0 g (.slice (some ad) n c) (.func (.func fv) #[] cap) 46 110 wr.drew := HBr.out.drew
      have hJd : J (Ma.nw b n p) wr.drew := HJ.out _ _ _ HJr.out (grown_drew (grown_refl wr none))
      have hcall := fun W (hW : PIn w0 g (.slice (some ad) n c) (.func (.func fv) #[] cap) 46 110 W) => HW.out W hW.bel p hlt
      have HJd := Lib.hid hJd; have HC := Lib.hid hcall
      clear hJd HJr HBr hcall HB HJ0 HW
      gi_wp2_with fail
      refine iter_held (fun U => PIn w0 g (.slice (some ad) n c) (.func (.func fv) #[] cap) 46 110 U) (by kernel_rfl) ?_
      generalize wr.drew = wd at *
      refine AnyIn.pick (by kernel_rfl) Only.panic (w := wd) hS [0, 1, 2, 3, 4] 7 _ _ (by kernel_rfl) ?_
      refine PickOk.value (d := some 10) (v := .func (.func fv) #[] cap) rfl rfl (by kernel_rfl) (fun U hU => (by obtain ⟨b1, b2⟩ := hU.cells; go_simp)) ?_
      refine PickOk.value (d := some 11) (v := .slice (some ad) n c) rfl rfl (by kernel_rfl) (fun U hU => (by obtain ⟨b1, b2⟩ := hU.cells; go_simp)) ?_
      refine PickOk.value (d := some 12) (v := .int .i64 p) rfl rfl (by kernel_rfl) (fun U hU => (by go_simp)) ?_
      refine PickOk.value (d := some 13) (v := .pointer (some (ad.add (p * 2)))) rfl rfl (by kernel_rfl) (fun U hU => (by go_simp)) ?_
      refine PickOk.value (d := some 14) (v := .agg #[x p 0, x p 1]) rfl rfl (by kernel_rfl) (fun U hU => (by obtain ⟨ad2, e, hc0, hc⟩ := HA.out.at_ hU.bel hlt; cases e; have c0 := hc0 (by omega); have c1 := hc 1 (by omega) (by omega); go_simp)) ?_
      simp only [PickOk, Act.put, List.setIfInBounds_toArray, List.set_cons_zero, List.set_cons_succ]
      refine AnyIn.one (i := 5) (by kernel_rfl) rfl (by kernel_rfl) ?_
      intro K hK
      have he2 := HE.out
      unfold Oper.wpIn
      refine ⟨fun _ _ => trivial, ?_⟩
      rw [show Fence.wide.round = none from rfl, Oper.semAt_none]
      go_simp
      refine (callsIn_wide.2 (HC.out wd hS)).mono ?_
      rintro e w2 ⟨rfl, hb2⟩
      have hS2 := hS.later hb2
      have hJ2 := HJ.out _ _ _ HJd.out (grown_of_below hb2)
      refine hK _ _ hS2 (fun _ => ?_)
      clear hK K he2 hb2 hS
      cases hbp : b p with
      | false =>
        refine AnyIn.pick (by kernel_rfl) Only.panic (w := w2) hS2 [6, 7, 8, 9, 10, 11] 0 _ _ (by kernel_rfl) ?_
        refine PickOk.value (d := some 16) (v := .bool false) rfl rfl (by kernel_rfl) (fun U hU => (by go_simp)) ?_
        refine pick_skip (d := some 17) rfl rfl (by kernel_rfl) ?_
        refine pick_skip (d := some 18) rfl rfl (by kernel_rfl) ?_
        refine pick_skip (d := some 19) rfl rfl (by kernel_rfl) ?_
        refine pick_skip (d := some 20) rfl rfl (by kernel_rfl) ?_
        refine PickOk.value (d := some 21) (v := .bool false) rfl rfl (by kernel_rfl) (fun U hU => (by go_simp)) ?_
        simp only [PickOk, Act.put, List.setIfInBounds_toArray, List.set_cons_zero, List.set_cons_succ]
        refine AnyIn.done (by kernel_rfl) ?_ _
        refine Only.next ?_
        rw [Ma.nw_no hlt hbp] at hJ2
        have HJ2 := Lib.hid hJ2; have HS2 := Lib.hid hS2
        clear hJ2 hS2 hbp
        gi_wp2_with fail
        go_roundw
        case rel => exact ⟨p + 1, by omega, by go_num, HJ2.out, HS2.out⟩
        case measure => simp [intOf]; omega
      | true =>
        rw [Ma.nw_yes hlt hbp] at hJ2
        refine AnyIn.pick (by kernel_rfl) Only.panic (w := w2) hS2 [6, 7, 8] 3 _ _ (by kernel_rfl) ?_
        refine PickOk.value (d := some 16) (v := .bool true) rfl rfl (by kernel_rfl) (fun U hU => (by go_simp)) ?_
        refine PickOk.value (d := some 17) (v := .func (.yield l) #[] #[]) rfl rfl (by kernel_rfl) (fun U hU => (by go_simp)) ?_
        refine PickOk.value (d := some 18) (v := .int .i64 p) rfl rfl (by kernel_rfl) (fun U hU => (by go_simp)) ?_
        simp only [PickOk, Act.put, List.setIfInBounds_toArray, List.set_cons_zero, List.set_cons_succ]
        refine AnyIn.one (i := 9) (by kernel_rfl) rfl (by kernel_rfl) ?_
        intro K hK
        obtain ⟨fn, tmps, assign, body, hy, hR⟩ := HY.out p w2 hJ2 (by simpa using hlt)
        unfold Oper.wpIn
        refine ⟨fun _ _ => trivial, ?_⟩
        rw [show Fence.wide.round = none from rfl, Oper.semAt_none]
        go_simp
        refine hR.mono ?_
        rintro e w3 ⟨rfl, hJ3, hk3⟩
        have hS3 := hS2.keep hk3
        refine hK _ _ hS3 (fun _ => ?_)
        clear hK K hk3 hR hy hJ2 hS2 hbp
        refine AnyIn.pick (by kernel_rfl) Only.panic (w := w3) hS3 [10, 11] 0 _ _ (by kernel_rfl) ?_
        refine PickOk.value (d := some 20) (v := .bool false) rfl rfl (by kernel_rfl) (fun U hU => (by go_simp)) ?_
        refine PickOk.value (d := some 21) (v := .bool false) rfl rfl (by kernel_rfl) (fun U hU => (by go_simp)) ?_
        simp only [PickOk, Act.put, List.setIfInBounds_toArray, List.set_cons_zero, List.set_cons_succ]
        refine AnyIn.done (by kernel_rfl) ?_ _
        refine Only.next ?_
        have HJ3 := Lib.hid hJ3; have HS3 := Lib.hid hS3
        clear hJ3 hS3
        gi_wp2_with fail
        go_roundw
        case rel => exact ⟨p + 1, by omega, by go_num, HJ3.out, HS3.out⟩
        case measure => simp [intOf]; omega
    · obtain rfl : p = n := by omega
      have hje := HJr.out
      rw [Ma.nw_end (Nat.le_refl p)] at hje
      have HJE := Lib.hid hje; clear hje
      gi_wp2_with fail
      go_end0
      exact ⟨⟨_, rfl⟩, p, by simp, HJE.out⟩
theorem infoS : (Try.prog.info? 51).map (fun i => (i.zero, i.size, i.bytes)) = some (some (.agg #[.int .i64 0, .int .u64 0]), 2, 16) := by kernel_rfl
set_option maxRecDepth 100000 in
set_option maxHeartbeats 2000000 in
theorem pickS_any (A : Option Addr) (n c : Nat) (hn : n ≤ 1000000) (x : Nat → Nat → Value) (hx : ∀ i j, (x i j).oneCell' = true) (fv : FuncId) (cap : Array Value) (b : Nat → Bool)
    (he : ∀ args w, (callFunc fv args).run Try.prog w = .ok (.enter fv args) w) (w : World) (hA : Row 2 x w A n)
    (hw : ∀ W, Below w.heap.size w W → ∀ i, i < n → Calls Try.prog fv (#[.agg #[x i 0, x i 1]] ++ cap) W (fun e W2 => e = .returned (.bool (b i)) ∧ Below W.heap.size W W2)) :
    Calls Try.prog 60 #[.slice A n c, .func (.func fv) #[] cap] w (Picks 51 2 (fun i => [x i 0, x i 1]) (Ma.sel b n) w) := by
  obtain ⟨i0, hi0, hz0, hz1, hz2⟩ := info_parts infoS
  have HA := Lib.hid hA
  refine (callsIn_wide (n := 3)).1 ?_
  refine callsIn_of_wp_marks Try.func60 rfl trivial ?_ rfl
  simp only [Try.ntmps60, List.size_toArray, List.length_cons, List.length_nil, Nat.reduceAdd, Nat.reduceSub, Array.replicate_succ, Array.replicate_zero, List.push_toArray, List.append_toArray, List.nil_append, List.cons_append]
  refine wpIn_wide.2 ?_
  go_wp2_with fail
  have h2 := f_two_heap w (.cells #[.slice A n c] 46) (.cells #[.slice none 0 0] 46)
  generalize (w.alloc (.cells #[.slice A n c] 46)).alloc (.cells #[.slice none 0 0] 46) = w2 at *
  obtain ⟨h20, h21, z2, hk2, hg2⟩ := h2
  refine (placesS_any A n c fv cap _).mono ?_; rintro e w4 ⟨rfl, hw4⟩
  have h4 := f_two_heap w2 (.cells #[.slice A n c] 46) (.cells #[.func (.func fv) #[] cap] 110)
  rw [← hw4] at h4
  clear hw4
  obtain ⟨h42, h43, z4, hk4, hg4⟩ := h4
  rw [z2] at h42 h43 z4 hk4 ⊢
  have hpin : PIn w (w.heap.size + 2) (.slice A n c) (.func (.func fv) #[] cap) 46 110 w4 := ⟨by omega, (Below.refl w.heap.size w).grown (grown_trans hg2 hg4) (Nat.le_refl _) (fun r e => by cases e), h42, h43⟩
  obtain ⟨q1, q2, q3, q4⟩ := Ma.nw_spec b (Nat.zero_le n)
  have start : PickAt w w (.slice A n c) 46 46 51 2 (.slice A n c) (.func (.func fv) #[] cap) 46 110 (fun i => [x i 0, x i 1]) b n (Ma.nw b n 0) w4 :=
    ⟨⟨.slice none 0 0, (hk4 _ (by omega)).trans h21, by rw [q3]; exact World.ownsRow_nil _ _ _ _⟩, (hk4 _ (by omega)).trans h20, hpin, by omega, by omega, q2, q4⟩
  have ST := Lib.hid start
  clear start hk2 hk4 hg2 hg4 h20 h21 h42 h43 q1 q2 q3 q4
  go_wp2_with fail
  refine (wpIn_wide (n := 3)).1 ?_
  refine' rangeN (gf := 86) (lb := #[.pointer (some ⟨w.heap.size + 2, 0, none⟩), .pointer (some ⟨w.heap.size + 2 + 1, 0, none⟩)]) rfl (enters_of Try.func86 (by kernel_rfl) rfl)
    (placesS_hands w A n c (by unfold maxLen; omega) x hA fv cap b hw he (w.heap.size + 2) w4 hpin) (fun h k => h.trans k) ?ka ?kb (fun _ => rfl) (PickAt w w (.slice A n c) 46 46 51 2 (.slice A n c) (.func (.func fv) #[] cap) 46 110 (fun i => [x i 0, x i 1]) b n) ?hI ST.out _ ?assign ?body ?done
  case ka =>
    intro o1 o2 _ _
    have t := f_two_heap w4 o1 o2
    exact ⟨(Below.refl _ _).grown t.2.2.2.2 (by omega) (fun r e => by cases e), t.2.2.2.1 _ (by omega), t.2.2.2.1 _ (by omega)⟩
  case kb =>
    intro W l o o2 hl ho _
    have hlt := (Array.getElem?_eq_some_iff.1 ho).1
    exact ⟨(Below.refl _ _).grown (grownBy_putObj' W l o2) (by omega) (fun r e => by cases e; omega), f_putObj_other _ _ _ _ (by omega), f_putObj_other _ _ _ _ (by omega)⟩
  case hI =>
    intro s W W2 row h hg hr
    exact h.kept hg (fun r e => ⟨by have := (hr r e).1; omega, (hr r e).2⟩)
  case assign =>
    intro l s W K hK
    gi_wp2
    exact hK
  case body =>
    intro l s W hi hmr
    have hlt : s < n := of_decide_eq_true hmr
    have hbs : b s = true := hi.want hlt
    obtain ⟨o, h1, h2⟩ := hi.ex
    have hend := fun o' W1 => pick_end (W := W.drew) (o' := o') (W1 := W1) (ob := .cells #[x s 0, x s 1] 51) ⟨⟨o, h1, h2⟩, hi.box, hi.pin.drew, hi.low, hi.size, hi.le, hi.want⟩ hlt hbs h1 h2
    have c0 : W.drew.cell? ⟨w.heap.size, 0, none⟩ = some (.slice A n c) := cell_of_row _ _ _ _ _ _ hi.box
    have c1 : W.drew.cell? ⟨w.heap.size + 1, 0, none⟩ = some o := cell_of_row _ _ _ _ _ _ h1
    obtain ⟨ad, rfl, hc0, hc⟩ := HA.out.at_ hi.pin.drew.bel hlt
    have hsz := hi.size
    have hsl := Ma.sel_length b s
    have j1 : (s : Int) < (n : Int) := by omega
    have j0 : (0 : Int) ≤ (s : Int) := by omega
    have h2d : W.drew.ownsRow (w.heap.size + 4) 51 2 o (Ma.sel b s).length ((Ma.sel b s).flatMap (fun i => [x i 0, x i 1])) := h2
    have hvb : ∀ k, o.ownBlock = some k → w.heap.size + 4 ≤ k := fun k hk => (h2.lt k hk).1
    have hfacts : ∀ (w1 : World), (W.drew.alloc (.cells #[x s 0, x s 1] 51)).grownBy w1 o.ownBlock → w1.cell? ⟨w.heap.size + 1, 0, none⟩ = some o ∧ w1.frozen? ⟨w.heap.size + 1, 0, none⟩ = false := fun w1 hgrow => by
      have hlow1 : w1.heap[w.heap.size + 1]? = W.heap[w.heap.size + 1]? := (hgrow.block _ (by simp; omega) (fun e => by have := hvb _ e.symm; omega)).trans (Below.heap_alloc W.drew _ _ (by show _ < W.heap.size; omega))
      exact ⟨cell_of_row _ _ _ _ _ _ (hlow1.trans h1), frozen_of_row _ _ _ _ _ (hlow1.trans h1)⟩
    have hb1 : (Ma.sel b s).length + 1 ≤ maxLen := by unfold maxLen; omega
    have hb2 : ((Ma.sel b s).length + 1) * 16 ≤ 140737488355328 := by omega
    have hb3 : w.heap.size + 4 ≤ (W.drew.alloc (.cells #[x s 0, x s 1] 51)).heap.size := by simp; omega
    have HI := Lib.hid hi; have HEND := Lib.hid hend; have HF := Lib.hid hfacts; have HB1 := Lib.hid hb1; have HB2 := Lib.hid hb2; have HB3 := Lib.hid hb3; have H2 := Lib.hid h2d; have HDR : Hid (W.drew.heap = W.heap) := Lib.hid rfl
    have HKB : Hid (∀ X, KeepsFrom (w.heap.size + 4) W.drew X → KeepsFrom (w.heap.size + 4) W X) := Lib.hid (fun X h => ⟨h.size, h.same⟩)
    have HPK : Hid (∀ X, PKeep w.heap.size (w.heap.size + 2) W.drew X → PKeep w.heap.size (w.heap.size + 2) W X) := Lib.hid (fun X h => ⟨⟨h.1.os, h.1.tape, h.1.output, h.1.size, h.1.block⟩, h.2.1, h.2.2⟩)
    have HX := Lib.hid hx; have HVB := Lib.hid hvb
    have hS : PickS w (.slice (some ad) n c) 46 W.drew := ⟨hi.pin.bel.drew, hi.box⟩
    clear hi hmr ST h1 h2 h2d hend hfacts hb1 hb2 hb3 hvb hc0 hc hsl hx hpin hA
    gi_wp2_with fail
    refine round_held (fun U => PickS w (.slice (some ad) n c) 46 U) (by kernel_rfl) (by kernel_rfl) ?_
    generalize W.drew = Wd at *
    refine wpAnyH_pick (by kernel_rfl) Only.panic (w := Wd) hS [1, 2, 3, 4] 4 _ _ (by kernel_rfl) ?_
    refine PickOk.value (d := some 12) (v := .slice (some ad) n c) rfl rfl (by kernel_rfl) (fun U hU => (by have c9 := hU.at_box; go_simp)) ?_
    refine PickOk.value (d := some 13) (v := .int .i64 s) rfl rfl (by kernel_rfl) (fun U hU => (by go_simp)) ?_
    refine PickOk.value (d := some 14) (v := .pointer (some (ad.add (s * 2)))) rfl rfl (by kernel_rfl) (fun U hU => (by go_simp)) ?_
    refine PickOk.value (d := some 15) (v := .agg #[x s 0, x s 1]) rfl rfl (by kernel_rfl) (fun U hU => (by obtain ⟨ad2, e, hc0, hc⟩ := HA.out.at_ hU.bel hlt; cases e; have c0 := hc0 (by omega); have c1 := hc 1 (by omega) (by omega); go_simp)) ?_
    simp only [PickOk, Act.put, List.setIfInBounds_toArray, List.set_cons_zero, List.set_cons_succ]
    have hS5 := hS.later ((Below.refl _ _).alloc (Nat.le_refl _) (.cells #[x s 0, x s 1] 51))
    have e0 : (Wd.alloc (.cells #[x s 0, x s 1] 51)).cell? ⟨w.heap.size + 1, 0, none⟩ = some o := cell_keep c1 ((Below.refl _ _).alloc (Nat.le_refl _) _)
    refine wpAnyH_two (i := 0) (j := 5) (by kernel_rfl) rfl rfl (by kernel_rfl) (by kernel_rfl) ?_ ?_
    · intro K hK
      unfold Oper.wp
      go_simp
      refine hK _ _ hS (fun _ => ?_)
      clear hK K
      refine wpAnyH_one (i := 5) (by kernel_rfl) rfl (by kernel_rfl) ?_
      intro K hK
      unfold Oper.wp
      go_simp
      refine hK _ _ hS5 (fun _ => ?_)
      clear hK K
      refine wpAnyH_one (i := 6) (by kernel_rfl) rfl (by kernel_rfl) ?_
      intro K hK
      refine wp_append_own _ _ _ 46 rfl (w.heap.size + 4) 51 i0 (.agg #[.int .i64 0, .int .u64 0]) 2 16 Try.underlying46 hi0 hz0 hz1 hz2 rfl (by decide) _ _ _ rfl (H2.out.alloc _) ⟨Wd.heap.size, 0, none⟩ 1 1 [x s 0, x s 1] rfl rfl (cells_new _ _ _) (by simp [HX.out]) HB1.out HB2.out HB3.out ?_
      intro o' w1 hown' hgrow _
      obtain ⟨g', cap', rfl⟩ := ownsRow_succ hown'
      obtain ⟨e1, f1⟩ := HF.out w1 hgrow
      have HFIN := Lib.hid (HEND.out _ w1 hown' hgrow)
      have hS6 := hS5.grown hgrow (fun r hr => HVB.out r hr)
      clear hown' hgrow
      refine hK _ _ hS6 (fun _ => ?_)
      clear hK K
      refine wpAnyH_one (i := 7) (by kernel_rfl) rfl (by kernel_rfl) ?_
      intro K hK
      unfold Oper.wp
      go_simp
      refine hK _ _ (hS6.out_ _) (fun _ => ?_)
      clear hK K
      refine wpAnyH_done (by kernel_rfl) ?_ _
      refine only_mk ?_
      gi_wp2_with fail
      obtain ⟨z1, z2, z3⟩ := HFIN.out
      rw [z4]
      exact ⟨HKB.out _ z1, HPK.out _ z2, z3⟩
    · intro K hK
      unfold Oper.wp
      go_simp
      refine hK _ _ hS5 (fun _ => ?_)
      clear hK K
      refine wpAnyH_one (i := 0) (by kernel_rfl) rfl (by kernel_rfl) ?_
      intro K hK
      unfold Oper.wp
      go_simp
      refine hK _ _ hS5 (fun _ => ?_)
      clear hK K
      refine wpAnyH_one (i := 6) (by kernel_rfl) rfl (by kernel_rfl) ?_
      intro K hK
      refine wp_append_own _ _ _ 46 rfl (w.heap.size + 4) 51 i0 (.agg #[.int .i64 0, .int .u64 0]) 2 16 Try.underlying46 hi0 hz0 hz1 hz2 rfl (by decide) _ _ _ rfl (H2.out.alloc _) ⟨Wd.heap.size, 0, none⟩ 1 1 [x s 0, x s 1] rfl rfl (cells_new _ _ _) (by simp [HX.out]) HB1.out HB2.out HB3.out ?_
      intro o' w1 hown' hgrow _
      obtain ⟨g', cap', rfl⟩ := ownsRow_succ hown'
      obtain ⟨e1, f1⟩ := HF.out w1 hgrow
      have HFIN := Lib.hid (HEND.out _ w1 hown' hgrow)
      have hS6 := hS5.grown hgrow (fun r hr => HVB.out r hr)
      clear hown' hgrow
      refine hK _ _ hS6 (fun _ => ?_)
      clear hK K
      refine wpAnyH_one (i := 7) (by kernel_rfl) rfl (by kernel_rfl) ?_
      intro K hK
      unfold Oper.wp
      go_simp
      refine hK _ _ (hS6.out_ _) (fun _ => ?_)
      clear hK K
      refine wpAnyH_done (by kernel_rfl) ?_ _
      refine only_mk ?_
      gi_wp2_with fail
      obtain ⟨z1, z2, z3⟩ := HFIN.out
      rw [z4]
      exact ⟨HKB.out _ z1, HPK.out _ z2, z3⟩
  case done =>
    intro D s W hD hmr hi hK
    have hge : n ≤ s := Nat.le_of_not_lt (of_decide_eq_false hmr)
    obtain rfl : s = n := by have := hi.le; omega
    obtain ⟨o, h1, h2⟩ := hi.ex
    have c1 : W.cell? ⟨w.heap.size + 1, 0, none⟩ = some o := cell_of_row _ _ _ _ _ _ h1
    have hsz := hi.size
    have HI := Lib.hid hi; have HK := Lib.hid hK; have H2 := Lib.hid h2
    clear hi hK h2 h1 hmr ST hge hpin
    go_wp2_with fail
    refine ⟨by simp, .inl ⟨_, _, rfl, run_takeDeferred HK.out, ?_⟩⟩
    have hk := HI.out.kept (grownBy_putObj' W D (.deferred none)) (fun r e => by cases e; exact ⟨by omega, _, HK.out, rfl⟩)
    have hown := H2.out.kept (grownBy_putObj' W D (.deferred none)) (by cases hv : o.ownBlock with
      | none => exact .inl rfl
      | some k => exact .inr (fun e => by cases e; have := own_cells H2.out hv HK.out; cases this))
    exact ⟨o, by simp [results, Try.results60, go_sem], o, rfl, own_from hown (by omega), hk.pin.bel⟩
end Go.Proofs.Ytidfanmfibbiiaa
/-
  What the functions of package match come to: Fits, All.
-/
namespace Go.Proofs.Ytidfanmfibbiiaa
open Go.RowKit
/-- a matcher -/
structure Mat where
  k : Int
  n : ByteArray
  v : ByteArray
def Mat.val (m : Mat) : Value := .agg #[.int .i64 m.k, .string m.n, .string m.v]
namespace Ma
def begins (s p : ByteArray) : Bool := decide (p.size ≤ s.size) && decide (s.extract 0 p.size = p)
/-- does one fit? -/
def fits (m : Mat) (f : Nat → Lab) (n : Nat) : Bool :=
  if m.k = 0 then decide (La.get f m.n n 0 = m.v) else if m.k = 1 then !decide (La.get f m.n n 0 = m.v) else
  if m.k = 2 then begins (La.get f m.n n 0) m.v else if m.k = 3 then decide (0 < (sel (fun i => decide ((f i).1 = m.n)) n).length) else false
end Ma
theorem own_formk {W : World} {base e k n : Nat} {v : Value} {xs : List Value} (h : W.ownsRow base e k v n xs) : ∃ A c, v = .slice A n c := by
  rcases h.2 with ⟨rfl, rfl⟩ | ⟨g, c, cur, rfl, _⟩
  · exact ⟨none, 0, rfl⟩
  · exact ⟨_, _, rfl⟩
theorem hasPrefix_no (s p : ByteArray) (hl : s.size < p.size) (w : World) :
    Calls Try.prog 73 #[.string s, .string p] w fun e w' => e = .returned (.bool false) ∧ w = w' := by
  have d0 : decide ((p.size : Int) ≤ (s.size : Int)) = false := by simp; omega
  go_enter Try.func73, Try.ntmps73
  go_wp2
  go_ret
  exact ⟨rfl, rfl⟩
set_option maxRecDepth 100000 in
set_option maxHeartbeats 400000 in
theorem hasPrefix_yes (s p : ByteArray) (hl : p.size ≤ s.size) (b : Bool) (hb : decide (s.extract 0 p.size = p) = b) (w : World) :
    Calls Try.prog 73 #[.string s, .string p] w fun e w' => e = .returned (.bool b) ∧ w = w' := by
  rw [← str_beq] at hb
  go_enter Try.func73, Try.ntmps73
  go_wp2
  go_ret
  exact ⟨rfl, rfl⟩
theorem begins_any (s p : ByteArray) (w : World) :
    Calls Try.prog 73 #[.string s, .string p] w fun e w' => e = .returned (.bool (Ma.begins s p)) ∧ w = w' := by
  unfold Ma.begins
  rcases Nat.lt_or_ge s.size p.size with h | h
  · rw [decide_eq_false (by omega), Bool.false_and]; exact hasPrefix_no s p h w
  · rw [decide_eq_true h, Bool.true_and]; exact hasPrefix_yes s p h _ rfl w
theorem FitsC_any (g : Nat) (name : ByteArray) (x : Lab) (w : World) (hg : w.cell? ⟨g, 1, none⟩ = some (.string name)) :
    Calls Try.prog 75 #[.agg #[.string x.1, .string x.2], .pointer (some ⟨g, 0, none⟩)] w fun e w' => e = .returned (.bool (decide (x.1 = name))) ∧ Below w.heap.size w w' := by
  have hb := str_beq x.1 name
  have hne := cell_keep hg ((Below.refl _ _).alloc (Nat.le_refl _) (.cells #[.string x.1, .string x.2] 60))
  go_enter Try.func75, Try.ntmps75
  go_wp2_with fail
  go_ret
  exact ⟨rfl, (Below.refl _ _).alloc (Nat.le_refl _) _⟩
set_option maxRecDepth 100000 in
set_option maxHeartbeats 1000000 in
theorem Fits_any (m : Mat) (A : Option Addr) (n c : Nat) (hn : n ≤ 1000000) (f : Nat → Lab) (w : World) (hA : LabRow w A n f) :
    Calls Try.prog 58 #[m.val, .slice A n c] w fun e w' => e = .returned (.bool (Ma.fits m f n)) ∧ Below w.heap.size w w' := by
  obtain ⟨mk, mn, mv⟩ := m
  have hal : Below w.heap.size w (w.alloc (.cells #[.int .i64 mk, .string mn, .string mv] 79)) := (Below.refl _ _).alloc (Nat.le_refl _) _
  have hrow : (w.alloc (.cells #[.int .i64 mk, .string mn, .string mv] 79)).heap[w.heap.size]? = some (.cells #[.int .i64 mk, .string mn, .string mv] 79 (0, 0)) := heap_alloc_new _ _
  have hlt : w.heap.size < (w.alloc (.cells #[.int .i64 mk, .string mn, .string mv] 79)).heap.size := by simp
  have hA1 := hA.later hal
  have hget := Get_any A n c (by unfold maxLen; omega) f mn _ hA1
  have HAL := Lib.hid hal; have HA1 := Lib.hid hA1; have HG := Lib.hid hget; have HROW := Lib.hid hrow; have HLT := Lib.hid hlt
  clear hal hA1 hget hrow hA hlt
  unfold Mat.val
  go_enter Try.func58, Try.ntmps58
  have c0 := cell_of_row _ _ 0 _ _ _ HROW.out
  have c1 := cell_of_row _ _ 1 _ _ _ HROW.out
  simp at c0 c1
  go_wp2_with fail
  refine HG.out.mono ?_; rintro e w2 ⟨rfl, hb2⟩
  have HB2 := Lib.hid (HAL.out.trans (hb2.mono (Nat.le_of_lt HLT.out))); have HA2 := Lib.hid (HA1.out.later hb2); have HROW2 := Lib.hid (heap_keep HROW.out hb2)
  clear hb2 c0 c1 HG
  have c0 := cell_of_row _ _ 0 _ _ _ HROW2.out
  have c1 := cell_of_row _ _ 1 _ _ _ HROW2.out
  have c2 := cell_of_row _ _ 2 _ _ _ HROW2.out
  simp at c0 c1 c2
  have hf : Ma.fits ⟨mk, mn, mv⟩ f n = if mk = 0 then decide (La.get f mn n 0 = mv) else if mk = 1 then !decide (La.get f mn n 0 = mv) else
    if mk = 2 then Ma.begins (La.get f mn n 0) mv else if mk = 3 then decide (0 < (Ma.sel (fun i => decide ((f i).1 = mn)) n).length) else false := rfl
  have hbe := begins_any (La.get f mn n 0) mv
  have hsb := str_beq (La.get f mn n 0) mv
  generalize La.get f mn n 0 = gv at *
  have HF := Lib.hid hf; have HBE := Lib.hid hbe; clear hf hbe
  by_cases k0 : mk = 0
  · have e0 : (mk == 0) = true := by simp [k0]
    have HR : Hid (Ma.fits ⟨mk, mn, mv⟩ f n = (gv.toList == mv.toList)) := Lib.hid (by rw [HF.out, if_pos k0, hsb])
    clear k0 hsb
    go_wp2_with fail
    go_ret
    exact ⟨by rw [HR.out]; rfl, HB2.out⟩
  have e0 : (mk == 0) = false := by simp [k0]
  by_cases k1 : mk = 1
  · have e1 : (mk == 1) = true := by simp [k1]
    have HR : Hid (Ma.fits ⟨mk, mn, mv⟩ f n = !(gv.toList == mv.toList)) := Lib.hid (by rw [HF.out, if_neg k0, if_pos k1, hsb])
    clear k0 k1 hsb
    go_wp2_with fail
    go_ret
    exact ⟨by rw [HR.out]; rfl, HB2.out⟩
  have e1 : (mk == 1) = false := by simp [k1]
  by_cases k2 : mk = 2
  · have e2 : (mk == 2) = true := by simp [k2]
    have HR : Hid (Ma.fits ⟨mk, mn, mv⟩ f n = Ma.begins gv mv) := Lib.hid (by rw [HF.out, if_neg k0, if_neg k1, if_pos k2])
    clear k0 k1 k2 hsb
    go_wp2_with fail
    refine (HBE.out _).mono ?_; rintro e w3 ⟨rfl, rfl⟩
    go_wp2_with fail
    go_ret
    exact ⟨by rw [HR.out]; rfl, HB2.out⟩
  have e2 : (mk == 2) = false := by simp [k2]
  by_cases k3 : mk = 3
  · have e3 : (mk == 3) = true := by simp [k3]
    have HR : Hid (Ma.fits ⟨mk, mn, mv⟩ f n = decide (0 < (Ma.sel (fun i => decide ((f i).1 = mn)) n).length)) := Lib.hid (by rw [HF.out, if_neg k0, if_neg k1, if_neg k2, if_pos k3])
    clear k0 k1 k2 k3 hsb
    have hpk := pickL_any A n c hn _ (fun i j => by by_cases h : j = 0 <;> simp [h, Value.oneCell']) 75 #[.pointer (some ⟨w.heap.size, 0, none⟩)] (fun i => decide ((f i).1 = mn))
      (fun args w => enters_of Try.func75 (by kernel_rfl) rfl args w) w2 HA2.out.row (fun W hW i hi => FitsC_any w.heap.size mn (f i) W (cell_keep c1 hW))
    have HPK := Lib.hid hpk; clear hpk
    go_wp2_with fail
    refine HPK.out.mono ?_
    rintro e w3 ⟨v, rfl, hown, hb3⟩
    obtain ⟨A3, c3, rfl⟩ := own_formk hown
    have HB3 := Lib.hid (HB2.out.trans (hb3.mono HB2.out.size))
    clear hown hb3
    generalize (Ma.sel (fun i => decide ((f i).1 = mn)) n).length = q at *
    have hq : decide ((0 : Int) < (q : Int)) = decide (0 < q) := by simp
    have HQ := Lib.hid hq; clear hq
    go_wp2_with fail
    go_ret
    exact ⟨by rw [HR.out, ← HQ.out]; rfl, HB3.out⟩
  have e3 : (mk == 3) = false := by simp [k3]
  have HR : Hid (Ma.fits ⟨mk, mn, mv⟩ f n = false) := Lib.hid (by rw [HF.out, if_neg k0, if_neg k1, if_neg k2, if_neg k3])
  clear k0 k1 k2 k3 hsb
  go_wp2_with fail
  go_ret
  exact ⟨by rw [HR.out]; rfl, HB2.out⟩
end Go.Proofs.Ytidfanmfibbiiaa
/-
  What the functions of package match come to: All, Between, Without, Not, Sorted.
-/
namespace Go.Proofs.Ytidfanmfibbiiaa
open Go.RowKit
/-- matchers as cells -/
def mx (m : Nat → Mat) (i j : Nat) : Value := if j = 0 then .int .i64 (m i).k else if j = 1 then .string (m i).n else .string (m i).v
theorem mx_one (m : Nat → Mat) (i j : Nat) : (mx m i j).oneCell' = true := by
  unfold mx; split
  · rfl
  · split <;> rfl
/-- a sample -/
structure Sam where
  t : Int
  v : Int
def sx (s : Nat → Sam) (i j : Nat) : Value := if j = 0 then .int .i64 (s i).t else .int .u64 (s i).v
theorem sx_one (s : Nat → Sam) (i j : Nat) : (sx s i j).oneCell' = true := by
  unfold sx; split <;> rfl
namespace Ma
def all (m : Nat → Mat) (k : Nat) (f : Nat → Lab) (n : Nat) : Bool := decide ((sel (fun i => fits (m i) f n) k).length = k)
def inT (lo hi t : Int) : Bool := decide (lo ≤ t) && decide (t ≤ hi)
end Ma
theorem AllC_any (g : Nat) (m : Mat) (A : Option Addr) (n c : Nat) (hn : n ≤ 1000000) (f : Nat → Lab) (w : World) (hA : LabRow w A n f) (hg : w.cell? ⟨g, 0, none⟩ = some (.slice A n c)) :
    Calls Try.prog 57 #[m.val, .pointer (some ⟨g, 0, none⟩)] w fun e w' => e = .returned (.bool (Ma.fits m f n)) ∧ Below w.heap.size w w' := by
  have hal : Below w.heap.size w (w.alloc (.cells #[.int .i64 m.k, .string m.n, .string m.v] 79)) := (Below.refl _ _).alloc (Nat.le_refl _) _
  have hne := cell_keep hg hal
  have hf := Fits_any m A n c hn f _ (hA.later hal)
  have hv : m.val = .agg #[.int .i64 m.k, .string m.n, .string m.v] := rfl
  rw [hv] at hf ⊢
  have HF := Lib.hid hf; have HAL := Lib.hid hal; clear hf hal hv hA
  go_enter Try.func57, Try.ntmps57
  go_wp2_with fail
  refine HF.out.mono ?_; rintro e w2 ⟨rfl, hb2⟩
  have HB2 := Lib.hid (HAL.out.trans (hb2.mono HAL.out.size)); clear hb2
  go_wp2_with fail
  go_ret
  exact ⟨rfl, HB2.out⟩
set_option maxRecDepth 100000 in
set_option maxHeartbeats 1000000 in
theorem All_any (B : Option Addr) (k cm : Nat) (hk : k ≤ 1000000) (m : Nat → Mat) (A : Option Addr) (n c : Nat) (hn : n ≤ 1000000) (f : Nat → Lab) (w : World) (hB : Row 3 (mx m) w B k) (hA : LabRow w A n f) :
    Calls Try.prog 43 #[.slice B k cm, .slice A n c] w fun e w' => e = .returned (.bool (Ma.all m k f n)) ∧ Below w.heap.size w w' := by
  have hal : Below w.heap.size w (w.alloc (.cells #[.slice A n c] 35)) := (Below.refl _ _).alloc (Nat.le_refl _) _
  have hbx : (w.alloc (.cells #[.slice A n c] 35)).cell? ⟨w.heap.size, 0, none⟩ = some (.slice A n c) := cell_of_row _ _ 0 _ _ _ (heap_alloc_new _ _)
  have hpk := pickX_any B k cm hk (mx m) (mx_one m) 57 #[.pointer (some ⟨w.heap.size, 0, none⟩)] (fun i => Ma.fits (m i) f n)
    (fun args w => enters_of Try.func57 (by kernel_rfl) rfl args w) _ (hB.later hal) (fun W hW i hi => AllC_any w.heap.size (m i) A n c hn f W ((hA.later hal).later hW) (cell_keep hbx hW))
  have HPK := Lib.hid hpk; have HAL := Lib.hid hal; clear hpk hal hbx hA hB
  go_enter Try.func43, Try.ntmps43
  go_wp2_with fail
  refine HPK.out.mono ?_
  rintro e w3 ⟨v, rfl, hown, hb3⟩
  obtain ⟨A3, c3, rfl⟩ := own_formk hown
  have HB3 := Lib.hid (HAL.out.trans (hb3.mono HAL.out.size))
  clear hown hb3
  have HALL : Hid (Ma.all m k f n = decide ((Ma.sel (fun i => Ma.fits (m i) f n) k).length = k)) := Lib.hid rfl
  generalize (Ma.sel (fun i => Ma.fits (m i) f n) k).length = q at *
  by_cases hq : q = k
  · have d1 : ((q : Int) == (k : Int)) = true := by simp [hq]
    have HR : Hid (Ma.all m k f n = true) := Lib.hid (by rw [HALL.out]; exact decide_eq_true hq)
    clear hq
    go_wp2_with fail
    go_ret
    exact ⟨by rw [HR.out]; rfl, HB3.out⟩
  · have d1 : ((q : Int) == (k : Int)) = false := by rw [beq_eq_false_iff_ne]; omega
    have HR : Hid (Ma.all m k f n = false) := Lib.hid (by rw [HALL.out]; exact decide_eq_false hq)
    clear hq
    go_wp2_with fail
    go_ret
    exact ⟨by rw [HR.out]; rfl, HB3.out⟩
theorem within_any (t v lo hi : Int) (w : World) :
    Calls Try.prog 62 #[.agg #[.int .i64 t, .int .u64 v], .int .i64 lo, .int .i64 hi] w fun e w' => e = .returned (.bool (Ma.inT lo hi t)) ∧ Below w.heap.size w w' := by
  have HB : Hid (Below w.heap.size w (w.alloc (.cells #[.int .i64 t, .int .u64 v] 51))) := Lib.hid ((Below.refl _ _).alloc (Nat.le_refl _) _)
  have hr : Ma.inT lo hi t = (decide (lo ≤ t) && decide (t ≤ hi)) := rfl
  by_cases h1 : lo ≤ t
  · have d1 : decide (lo ≤ t) = true := decide_eq_true h1
    rw [d1, Bool.true_and] at hr
    have HR := Lib.hid hr; clear hr
    go_enter Try.func62, Try.ntmps62
    go_wp2_with fail
    go_ret
    exact ⟨by rw [HR.out]; rfl, HB.out⟩
  · have d1 : decide (lo ≤ t) = false := decide_eq_false h1
    rw [d1, Bool.false_and] at hr
    have HR := Lib.hid hr; clear hr
    go_enter Try.func62, Try.ntmps62
    go_wp2_with fail
    go_ret
    exact ⟨by rw [HR.out]; rfl, HB.out⟩
theorem BetwC_any (g : Nat) (t v lo hi : Int) (w : World) (h0 : w.cell? ⟨g, 0, none⟩ = some (.int .i64 lo)) (h1 : w.cell? ⟨g + 1, 0, none⟩ = some (.int .i64 hi)) :
    Calls Try.prog 61 #[.agg #[.int .i64 t, .int .u64 v], .pointer (some ⟨g, 0, none⟩), .pointer (some ⟨g + 1, 0, none⟩)] w fun e w' => e = .returned (.bool (Ma.inT lo hi t)) ∧ Below w.heap.size w w' := by
  have hal : Below w.heap.size w (w.alloc (.cells #[.int .i64 t, .int .u64 v] 51)) := (Below.refl _ _).alloc (Nat.le_refl _) _
  have e0 := cell_keep h0 hal
  have e1 := cell_keep h1 hal
  have HAL := Lib.hid hal; clear hal
  go_enter Try.func61, Try.ntmps61
  go_wp2_with fail
  refine (within_any t v lo hi _).mono ?_; rintro e w2 ⟨rfl, hb2⟩
  have HB2 := Lib.hid (HAL.out.trans (hb2.mono HAL.out.size)); clear hb2
  go_wp2_with fail
  go_ret
  exact ⟨rfl, HB2.out⟩
theorem WithC_any (g : Nat) (t v lo hi : Int) (w : World) (h0 : w.cell? ⟨g, 0, none⟩ = some (.int .i64 lo)) (h1 : w.cell? ⟨g + 1, 0, none⟩ = some (.int .i64 hi)) :
    Calls Try.prog 76 #[.agg #[.int .i64 t, .int .u64 v], .pointer (some ⟨g, 0, none⟩), .pointer (some ⟨g + 1, 0, none⟩)] w fun e w' => e = .returned (.bool (!Ma.inT lo hi t)) ∧ Below w.heap.size w w' := by
  have hal : Below w.heap.size w (w.alloc (.cells #[.int .i64 t, .int .u64 v] 51)) := (Below.refl _ _).alloc (Nat.le_refl _) _
  have e0 := cell_keep h0 hal
  have e1 := cell_keep h1 hal
  have HAL := Lib.hid hal; clear hal
  go_enter Try.func76, Try.ntmps76
  go_wp2_with fail
  refine (within_any t v lo hi _).mono ?_; rintro e w2 ⟨rfl, hb2⟩
  have HB2 := Lib.hid (HAL.out.trans (hb2.mono HAL.out.size)); clear hb2
  go_wp2_with fail
  go_ret
  exact ⟨rfl, HB2.out⟩
theorem Between_any (A : Option Addr) (n c : Nat) (hn : n ≤ 1000000) (s : Nat → Sam) (lo hi : Int) (w : World) (hA : Row 2 (sx s) w A n) :
    Calls Try.prog 46 #[.slice A n c, .int .i64 lo, .int .i64 hi] w (Picks 51 2 (fun i => [sx s i 0, sx s i 1]) (Ma.sel (fun i => Ma.inT lo hi (s i).t) n) w) := by
  have h2 := f_two_heap w (.cells #[.int .i64 lo] 2) (.cells #[.int .i64 hi] 2)
  obtain ⟨h20, h21, z2, hk2, hg2⟩ := h2
  have hal : Below w.heap.size w ((w.alloc (.cells #[.int .i64 lo] 2)).alloc (.cells #[.int .i64 hi] 2)) := (Below.refl _ _).grown hg2 (Nat.le_refl _) (fun r e => by cases e)
  have c0 := cell_of_row _ _ 0 _ _ _ h20
  have c1 := cell_of_row _ _ 0 _ _ _ h21
  have hpk := pickS_any A n c hn (sx s) (sx_one s) 61 #[.pointer (some ⟨w.heap.size, 0, none⟩), .pointer (some ⟨w.heap.size + 1, 0, none⟩)] (fun i => Ma.inT lo hi (s i).t)
    (fun args w => enters_of Try.func61 (by kernel_rfl) rfl args w) _ (hA.later hal) (fun W hW i hi2 => BetwC_any w.heap.size (s i).t (s i).v lo hi W (cell_keep c0 hW) (cell_keep c1 hW))
  have HPK := Lib.hid hpk; have HAL := Lib.hid hal
  clear hpk hal c0 c1 h20 h21 hk2 hg2 hA z2
  go_enter Try.func46, Try.ntmps46
  go_wp2_with fail
  refine HPK.out.mono ?_
  rintro e w3 ⟨v, rfl, hown, hb3⟩
  have HB3 := Lib.hid (HAL.out.trans (hb3.mono HAL.out.size)); have HO := Lib.hid (own_from hown HAL.out.size)
  clear hown hb3
  go_wp2_with fail
  go_ret
  exact ⟨v, rfl, HO.out, HB3.out⟩
theorem Without_any (A : Option Addr) (n c : Nat) (hn : n ≤ 1000000) (s : Nat → Sam) (lo hi : Int) (w : World) (hA : Row 2 (sx s) w A n) :
    Calls Try.prog 59 #[.slice A n c, .int .i64 lo, .int .i64 hi] w (Picks 51 2 (fun i => [sx s i 0, sx s i 1]) (Ma.sel (fun i => !Ma.inT lo hi (s i).t) n) w) := by
  have h2 := f_two_heap w (.cells #[.int .i64 lo] 2) (.cells #[.int .i64 hi] 2)
  obtain ⟨h20, h21, z2, hk2, hg2⟩ := h2
  have hal : Below w.heap.size w ((w.alloc (.cells #[.int .i64 lo] 2)).alloc (.cells #[.int .i64 hi] 2)) := (Below.refl _ _).grown hg2 (Nat.le_refl _) (fun r e => by cases e)
  have c0 := cell_of_row _ _ 0 _ _ _ h20
  have c1 := cell_of_row _ _ 0 _ _ _ h21
  have hpk := pickS_any A n c hn (sx s) (sx_one s) 76 #[.pointer (some ⟨w.heap.size, 0, none⟩), .pointer (some ⟨w.heap.size + 1, 0, none⟩)] (fun i => !Ma.inT lo hi (s i).t)
    (fun args w => enters_of Try.func76 (by kernel_rfl) rfl args w) _ (hA.later hal) (fun W hW i hi2 => WithC_any w.heap.size (s i).t (s i).v lo hi W (cell_keep c0 hW) (cell_keep c1 hW))
  have HPK := Lib.hid hpk; have HAL := Lib.hid hal
  clear hpk hal c0 c1 h20 h21 hk2 hg2 hA z2
  go_enter Try.func59, Try.ntmps59
  go_wp2_with fail
  refine HPK.out.mono ?_
  rintro e w3 ⟨v, rfl, hown, hb3⟩
  have HB3 := Lib.hid (HAL.out.trans (hb3.mono HAL.out.size)); have HO := Lib.hid (own_from hown HAL.out.size)
  clear hown hb3
  go_wp2_with fail
  go_ret
  exact ⟨v, rfl, HO.out, HB3.out⟩
end Go.Proofs.Ytidfanmfibbiiaa
