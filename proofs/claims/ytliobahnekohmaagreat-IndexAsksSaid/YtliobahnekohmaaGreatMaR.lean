/-
  What the functions of package match come to: places, over []api.Label.
-/
import Derived.Test.YtliobahnekohmaaGreatMaC
namespace Go.Proofs.YtliobahnekohmaaGreat
open Go.RowKit Go.Shelf
attribute [local go_sem] Oper.semAt_some

theorem placesR_any (A : Option Addr) (n c : Nat) (fv : FuncId) (cap : Array Value) (w : World) : Calls Tryz.prog 58 #[.slice A n c, .func (.func fv) #[] cap] w fun e w' =>
    e = .returned (.func (.func 98) #[] #[.pointer (some ⟨w.heap.size, 0, none⟩), .pointer (some ⟨w.heap.size + 1, 0, none⟩)]) ∧ w' = (w.alloc (.cells #[.slice A n c] 56)).alloc (.cells #[.func (.func fv) #[] cap] 64) := by
  go_enter Tryz.func58, Tryz.ntmps58
  go_wp2_with fail
  go_ret
  exact ⟨rfl, rfl⟩

set_option maxRecDepth 100000 in
set_option maxHeartbeats 2000000 in
theorem placesR_hands (w0 : World) (A : Option Addr) (n c : Nat) (hn : n ≤ maxLen) (x : Nat → Nat → Value) (hA : Row 1 x w0 A n) (fv : FuncId) (cap : Array Value) (b : Nat → Bool)
    (hw : ∀ W, Below w0.heap.size w0 W → ∀ i, i < n → Calls Tryz.prog fv (#[x i 0] ++ cap) W (fun e W2 => e = .returned (.bool (b i)) ∧ Below W.heap.size W W2))
    (he : ∀ args w, (callFunc fv args).run Tryz.prog w = .ok (.enter fv args) w)
    (g : Nat) (w : World) (hbx : PIn w0 g (.slice A n c) (.func (.func fv) #[] cap) 56 64 w) :
    Hands Tryz.prog 98 #[.pointer (some ⟨g, 0, none⟩), .pointer (some ⟨g + 1, 0, none⟩)] (fun s : Nat => #[.int .i64 s]) (fun s => decide (s < n)) (fun s => Ma.nw b n (s + 1)) (PKeep w0.heap.size g) (Ma.nw b n 0) w := by
  intro l J W hK _ hJ hY h0
  have hB := hbx.keep hK
  unfold maxLen at hn
  obtain ⟨b1, b2⟩ := hB.cells
  refine callsIn_of_wp Tryz.func98 rfl trivial ?_ rfl
  simp only [Tryz.ntmps98, List.size_toArray, List.length_cons, List.length_nil, Nat.reduceAdd, Nat.reduceSub, Array.replicate_succ, Array.replicate_zero, List.push_toArray, List.append_toArray, List.nil_append, List.cons_append]
  have HB := Lib.hid hB; have HJ0 := Lib.hid h0; have HA := Lib.hid hA; have HW := Lib.hid hw; clear hB h0 hbx hK hA hw
  have HJ := Lib.hid hJ; have HY := Lib.hid hY; have HE := Lib.hid he; clear hJ hY he
  gi_wp2_with fail
  gi_loopw [7] (fun i wr => ∃ p : Nat, p ≤ n ∧ i = .int .i64 p ∧ J (Ma.nw b n p) wr ∧ PIn w0 g (.slice A n c) (.func (.func fv) #[] cap) 56 64 wr) (fun i _ => n - (intOf i).toNat)
  case atStart => exact ⟨0, Nat.zero_le _, rfl, HJ0.out, HB.out⟩
  case round =>
    obtain ⟨p, hp, rfl, hj, hb⟩ := hrel
    have HBr := Lib.hid hb; have HJr := Lib.hid hj; clear hb hj
    clear b1 b2
    by_cases hlt : p < n
    · have i1 : (p : Int) < (n : Int) := by omega
      have i0 : (0 : Int) ≤ (p : Int) := by omega
      obtain ⟨ad, rfl, -⟩ := HA.out.at_ HBr.out.bel hlt
      have hS : PIn w0 g (.slice (some ad) n c) (.func (.func fv) #[] cap) 56 64 wr.drew := HBr.out.drew
      have hJd : J (Ma.nw b n p) wr.drew := HJ.out _ _ _ HJr.out (grown_drew (grown_refl wr none))
      have hcall := fun W (hW : PIn w0 g (.slice (some ad) n c) (.func (.func fv) #[] cap) 56 64 W) => HW.out W hW.bel p hlt
      have HJd := Lib.hid hJd; have HC := Lib.hid hcall
      clear hJd HJr HBr hcall HB HJ0 HW
      gi_wp2_with fail
      refine iter_held (fun U => PIn w0 g (.slice (some ad) n c) (.func (.func fv) #[] cap) 56 64 U) (by kernel_rfl) ?_
      generalize wr.drew = wd at *
      refine AnyIn.pick (by kernel_rfl) Only.panic (w := wd) hS [0, 1, 2, 3, 4] 7 _ _ (by kernel_rfl) ?_
      refine PickOk.value (d := some 10) (v := .func (.func fv) #[] cap) rfl rfl (by kernel_rfl) (fun U hU => (by obtain ⟨b1, b2⟩ := hU.cells; go_simp)) ?_
      refine PickOk.value (d := some 11) (v := .slice (some ad) n c) rfl rfl (by kernel_rfl) (fun U hU => (by obtain ⟨b1, b2⟩ := hU.cells; go_simp)) ?_
      refine PickOk.value (d := some 12) (v := .int .i64 p) rfl rfl (by kernel_rfl) (fun U hU => (by go_simp)) ?_
      refine PickOk.value (d := some 13) (v := .pointer (some (ad.add p))) rfl rfl (by kernel_rfl) (fun U hU => (by go_simp)) ?_
      refine PickOk.value (d := some 14) (v := x p 0) rfl rfl (by kernel_rfl) (fun U hU => (by obtain ⟨ad2, e, hc0, hc⟩ := HA.out.at_ hU.bel hlt; cases e; have c0 := hc0 (by omega); rw [Nat.mul_one] at c0; go_simp)) ?_
      simp only [PickOk, Act.put, List.setIfInBounds_toArray, List.set_cons_zero, List.set_cons_succ]
      refine AnyIn.one (i := 5) (by kernel_rfl) rfl (by kernel_rfl) ?_
      intro K hK
      have he2 := HE.out
      unfold Oper.wpIn
      refine ⟨fun _ _ => trivial, ?_⟩
      rw [show Fence.wide.round = none from rfl, Oper.semAt_none]
      go_simp
      refine (callsIn_wide.2 (HC.out wd hS)).mono ?_
      rintro e w2 ⟨rfl, hb2⟩
      have hS2 := hS.later hb2
      have hJ2 := HJ.out _ _ _ HJd.out (grown_of_below hb2)
      refine hK _ _ hS2 (fun _ => ?_)
      clear hK K he2 hb2 hS
      cases hbp : b p with
      | false =>
        refine AnyIn.pick (by kernel_rfl) Only.panic (w := w2) hS2 [6, 7, 8, 9, 10, 11] 0 _ _ (by kernel_rfl) ?_
        refine PickOk.value (d := some 16) (v := .bool false) rfl rfl (by kernel_rfl) (fun U hU => (by go_simp)) ?_
        refine pick_skip (d := some 17) rfl rfl (by kernel_rfl) ?_
        refine pick_skip (d := some 18) rfl rfl (by kernel_rfl) ?_
        refine pick_skip (d := some 19) rfl rfl (by kernel_rfl) ?_
        refine pick_skip (d := some 20) rfl rfl (by kernel_rfl) ?_
        refine PickOk.value (d := some 21) (v := .bool false) rfl rfl (by kernel_rfl) (fun U hU => (by go_simp)) ?_
        simp only [PickOk, Act.put, List.setIfInBounds_toArray, List.set_cons_zero, List.set_cons_succ]
        refine AnyIn.done (by kernel_rfl) ?_ _
        refine Only.next ?_
        rw [Ma.nw_no hlt hbp] at hJ2
        have HJ2 := Lib.hid hJ2; have HS2 := Lib.hid hS2
        clear hJ2 hS2 hbp
        gi_wp2_with fail
        go_roundw
        case rel => exact ⟨p + 1, by omega, by go_num, HJ2.out, HS2.out⟩
        case measure => simp [intOf]; omega
      | true =>
        rw [Ma.nw_yes hlt hbp] at hJ2
        refine AnyIn.pick (by kernel_rfl) Only.panic (w := w2) hS2 [6, 7, 8] 3 _ _ (by kernel_rfl) ?_
        refine PickOk.value (d := some 16) (v := .bool true) rfl rfl (by kernel_rfl) (fun U hU => (by go_simp)) ?_
        refine PickOk.value (d := some 17) (v := .func (.yield l) #[] #[]) rfl rfl (by kernel_rfl) (fun U hU => (by go_simp)) ?_
        refine PickOk.value (d := some 18) (v := .int .i64 p) rfl rfl (by kernel_rfl) (fun U hU => (by go_simp)) ?_
        simp only [PickOk, Act.put, List.setIfInBounds_toArray, List.set_cons_zero, List.set_cons_succ]
        refine AnyIn.one (i := 9) (by kernel_rfl) rfl (by kernel_rfl) ?_
        intro K hK
        obtain ⟨fn, tmps, assign, body, hy, hR⟩ := HY.out p w2 hJ2 (by simpa using hlt)
        unfold Oper.wpIn
        refine ⟨fun _ _ => trivial, ?_⟩
        rw [show Fence.wide.round = none from rfl, Oper.semAt_none]
        go_simp
        refine hR.mono ?_
        rintro e w3 ⟨rfl, hJ3, hk3⟩
        have hS3 := hS2.keep hk3
        refine hK _ _ hS3 (fun _ => ?_)
        clear hK K hk3 hR hy hJ2 hS2 hbp
        refine AnyIn.pick (by kernel_rfl) Only.panic (w := w3) hS3 [10, 11] 0 _ _ (by kernel_rfl) ?_
        refine PickOk.value (d := some 20) (v := .bool false) rfl rfl (by kernel_rfl) (fun U hU => (by go_simp)) ?_
        refine PickOk.value (d := some 21) (v := .bool false) rfl rfl (by kernel_rfl) (fun U hU => (by go_simp)) ?_
        simp only [PickOk, Act.put, List.setIfInBounds_toArray, List.set_cons_zero, List.set_cons_succ]
        refine AnyIn.done (by kernel_rfl) ?_ _
        refine Only.next ?_
        have HJ3 := Lib.hid hJ3; have HS3 := Lib.hid hS3
        clear hJ3 hS3
        gi_wp2_with fail
        go_roundw
        case rel => exact ⟨p + 1, by omega, by go_num, HJ3.out, HS3.out⟩
        case measure => simp [intOf]; omega
    · obtain rfl : p = n := by omega
      have hje := HJr.out
      rw [Ma.nw_end (Nat.le_refl p)] at hje
      have HJE := Lib.hid hje; clear hje
      gi_wp2_with fail
      go_end0
      exact ⟨⟨_, rfl⟩, p, by simp, HJE.out⟩
end Go.Proofs.YtliobahnekohmaaGreat
