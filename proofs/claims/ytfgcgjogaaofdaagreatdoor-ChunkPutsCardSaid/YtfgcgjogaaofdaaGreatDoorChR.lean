/-
  What read of package chunk comes to, whatever tells its samples.
-/
import Derived.Test.YtfgcgjogaaofdaaGreatDoorChA
import Derived.Deep.DeepCutAuto
import Derived.Shelf.Abstract
namespace Go.Proofs.YtfgcgjogaaofdaaGreatDoor
open Go.RowKit
theorem infoSm : (Tryz.prog.info? 30).map (fun i => (i.zero, i.size, i.bytes)) = some (some (.agg #[.int .i64 0, .int .u64 0]), 2, 16) := by kernel_rfl
theorem cells_new (w : World) (l : List Value) (T : TypeId) : ∀ (j : Nat) u, l[j]? = some u → (w.alloc (.cells l.toArray T)).cell? ((⟨w.heap.size, 0, none⟩ : Addr).add j) = some u := by
  intro j u hu
  rw [Addr.add_lit, Nat.zero_add, cell_of_row _ _ _ _ _ _ (heap_alloc_new w _)]
  rw [← hu]; simp
/-- samples as cells -/
def smpVals (L : List (Int × Nat)) : List Value := L.flatMap fun x => [.int .i64 x.1, .int .u64 (x.2 : Int)]
theorem smpVals_snoc (L : List (Int × Nat)) (x : Int × Nat) : smpVals (L ++ [x]) = smpVals L ++ [.int .i64 x.1, .int .u64 (x.2 : Int)] := by simp [smpVals]
theorem smp_get : ∀ (L : List (Int × Nat)) (i j : Nat), i < L.length → j < 2 → (smpVals L)[i * 2 + j]? = some (sx (Ch.sm (Ch.tL L) (Ch.vL L)) i j)
  | a :: L, 0, j, _, hj => by
    rcases (show j = 0 ∨ j = 1 by omega) with rfl | rfl <;> rfl
  | a :: L, i + 1, j, h, hj => by
    have ih := smp_get L i j (by simpa using h) hj
    have e : smpVals (a :: L) = .int .i64 a.1 :: .int .u64 (a.2 : Int) :: smpVals L := rfl
    rw [e, show (i + 1) * 2 + j = i * 2 + j + 1 + 1 from by omega]
    exact ih
/-- samples of the call's own, as a slice -/
theorem own_smp {w : World} {base : Nat} {A : Option Addr} {c : Nat} {L : List (Int × Nat)} (h : w.ownsRow base 30 2 (.slice A L.length c) L.length (smpVals L)) : Row 2 (sx (Ch.sm (Ch.tL L) (Ch.vL L))) w A L.length := by
  intro hn
  rcases h.2 with ⟨_, h0⟩ | ⟨g, cap, cur, hv, hb, hg, hc, _⟩
  · omega
  · simp only [Value.slice.injEq] at hv
    obtain ⟨rfl, _, rfl⟩ := hv
    refine ⟨⟨g, 0, none⟩, rfl, (Array.getElem?_eq_some_iff.1 hg).1, fun i hi j hj => ?_⟩
    exact h.cells (g := g) rfl (i * 2 + j) _ (smp_get L i j hi hj)
def lenOf : Value → Nat
  | .slice _ n _ => n
  | _ => 0
theorem own_far3 {W W2 : World} {base e s n : Nat} {v : Value} {xs : List Value} {S : Nat → Prop} (h : W.ownsRow base e s v n xs) (hf : Far W W2 S) (hS : ∀ k, S k → k < base) : W2.ownsRow base e s v n xs := by
  refine ⟨h.1, ?_⟩
  rcases h.2 with h2 | ⟨g, c, cur, hv, hb, hg, h3⟩
  · exact .inl h2
  · refine .inr ⟨g, c, cur, hv, hb, ?_, h3⟩
    rw [hf.same g (Array.getElem?_eq_some_iff.1 hg).1 (fun e => by have := hS g e; omega), hg]
theorem own_form3 {W : World} {base e s n : Nat} {v : Value} {xs : List Value} (h : W.ownsRow base e s v n xs) : ∃ A c, v = .slice A n c := by
  rcases h.2 with ⟨rfl, rfl⟩ | ⟨g, c, cur, rfl, _⟩
  · exact ⟨none, 0, rfl⟩
  · exact ⟨_, _, rfl⟩
/-- what reading comes to: samples of the call's own, and what the cursor is then -/
def Reads {σ : Type} (L : List (Int × Nat)) (s : σ) (Inv : σ → World → Prop) (S : Nat → Prop) (w : World) (e : Ending) (w' : World) : Prop :=
  ∃ A c, e = .returned (.slice A L.length c) ∧ w'.ownsRow w.heap.size 30 2 (.slice A L.length c) L.length (smpVals L) ∧ Inv s w' ∧ Far w w' S
set_option maxRecDepth 100000 in
set_option maxHeartbeats 2000000 in
theorem read_any {σ : Type} (f : σ → (Int × Nat) × σ) (bd : σ → Bool) (cur : σ → ByteArray) (fv : FuncId) (cap : Array Value) (he : ∀ args w, (callFunc fv args).run Tryz.prog w = .ok (.enter fv args) w) (b : Nat) (S : Nat → Prop) (w : World) (Inv : σ → World → Prop) (P : Nat → σ → Prop)
    (hcur : ∀ s W, Inv s W → CurAt b (cur s) (bd s) W) (hbel : ∀ s W W2, Inv s W → Below w.heap.size W W2 → Inv s W2) (hS : ∀ k, S k → k < w.heap.size)
    (n : Nat) (hPs : ∀ k s, k < n → P k s → P (k + 1) (f s).2) (hone : ∀ k s W, k < n → P k s → Inv s W → w.heap.size ≤ W.heap.size → Calls Tryz.prog fv cap W fun e w' => e = .returned (.agg #[.int .i64 (f s).1.1, .int .u64 ((f s).1.2 : Nat)]) ∧ Inv (f s).2 w' ∧ Far W w' S)
    (hn : n ≤ 200) (s0 : σ) (h0 : Inv s0 w) (hP0 : P 0 s0) :
    Calls Tryz.prog 48 #[.pointer (some ⟨b, 0, none⟩), .int .u64 (n : Nat), .func (.func fv) #[] cap] w (Reads (Ch.fin bd (Ch.rd f bd n [] s0)) (Ch.rd f bd n [] s0).2 Inv S w) := by
  obtain ⟨i0, hi, hz0, hz1, hz2⟩ := info_parts infoSm
  have HCUR := Lib.hid hcur; have HBEL := Lib.hid hbel; have HS := Lib.hid hS; have HONE := Lib.hid hone; have H0 := Lib.hid h0; have HPS := Lib.hid hPs
  have d0 : decide ((200 : Int) < (n : Int)) = false := by simp; omega
  clear hcur hbel hS hone h0 hPs
  go_enter Tryz.func48, Tryz.ntmps48
  go_wp2_with fail
  go_loopw [7] (fun l wr => ∃ (L : List (Int × Nat)) (s : σ) (A : Option Addr) (c : Nat), l = .slice A L.length c ∧ L.length ≤ n ∧ Ch.rd f bd n [] s0 = Ch.rd f bd (n - L.length) L s ∧ P L.length s ∧ Inv s wr ∧ Far w wr S ∧ wr.ownsRow w.heap.size 30 2 (.slice A L.length c) L.length (smpVals L)) (fun l _ => n - lenOf l)
  case atStart => exact ⟨[], s0, none, 0, rfl, by simp, rfl, hP0, H0.out, Far.refl _ _, World.ownsRow_nil _ _ _ _⟩
  case round =>
    obtain ⟨L, s, A, c, rfl, hL, hrd, hPk, hinv, hfar, hown⟩ := hrel
    have HPK := Lib.hid hPk
    have HRD := Lib.hid hrd; have HINV := Lib.hid hinv; have HFAR := Lib.hid hfar; have HOWN := Lib.hid hown
    have hsz := hfar.size
    obtain ⟨c0, c1, f0, f1⟩ := (HCUR.out s wr hinv).cells
    have hfin : Ch.rd f bd 0 L s = (L, s) := rfl
    have HFIN0 := Lib.hid hfin
    clear hrd hinv hfar hown hfin c0 f0 f1 hPk
    have hwl : IntKind.u64.wrap (L.length : Int) = (L.length : Int) := by rw [IntKind.wrap_u64]; omega
    cases hbd : bd s
    · rw [hbd] at c1
      by_cases hlt : L.length < n
      · have d1 : decide ((L.length : Int) < (n : Int)) = true := by simp; omega
        have hstep : Ch.rd f bd (n - L.length) L s = Ch.rd f bd (n - (L.length + 1)) (L ++ [(f s).1]) (f s).2 := by
          rw [show n - L.length = (n - (L.length + 1)) + 1 from by omega, Ch.rd, hbd]; rfl
        have HST := Lib.hid hstep
        have hcall := HONE.out _ s wr hlt HPK.out HINV.out hsz
        have hpn := HPS.out _ s hlt HPK.out
        have HPN := Lib.hid hpn
        have HCALL := Lib.hid hcall
        have hx : (f s).1 = ((f s).1.1, (f s).1.2) := rfl
        have HXX := Lib.hid hx
        clear hstep hcall hx hbd hpn
        generalize hm : L.length = m at *
        generalize (f s).2 = s2 at *
        generalize (f s).1 = x at *
        obtain ⟨xt, xv⟩ := x
        simp only at HCALL
        clear HXX
        go_wp2_with fail
        refine HCALL.out.mono ?_; rintro e w2 ⟨rfl, hinv2, hfar2⟩
        have HI2 := Lib.hid hinv2
        have hz2' := hfar2.size
        have hown2 := own_far3 HOWN.out hfar2 HS.out
        have HF2 := Lib.hid (HFAR.out.trans hfar2 (fun k hk => .inl hk))
        have HO2 := Lib.hid hown2
        clear hinv2 hfar2 c1
        go_wp2_with (at_builtin; go_must (refine wpList_append_own _ rfl _ _ 22 rfl w.heap.size 30 i0 (.agg #[.int .i64 0, .int .u64 0]) 2 16 Tryz.underlying22 hi hz0 hz1 hz2 rfl (by decide) _ _ _ rfl (hown2.alloc _) ⟨w2.heap.size, 0, none⟩ 1 1 [.int .i64 xt, .int .u64 (xv : Int)] rfl rfl (cells_new _ _ _) (by simp [Value.oneCell']) (by unfold maxLen; omega) (by omega) (by simp; omega) ?_); intro v' w6 hown' hgrow _; obtain ⟨A6, c6, rfl⟩ := own_form3 hown')
        have hlow := fun r hr => ((hown2.alloc (.cells #[.int .i64 xt, .int .u64 (xv : Int)] 30)).lt r hr).1
        have hb6 : Below w.heap.size w2 w6 := ((Below.refl w.heap.size w2).alloc (by omega) (.cells #[.int .i64 xt, .int .u64 (xv : Int)] 30)).grown hgrow (by simp; omega) hlow
        go_roundw
        case rel =>
          refine ⟨L ++ [(xt, xv)], s2, A6, c6, by simp [hm], by simp; omega, ?_, by simpa [hm] using HPN.out, HBEL.out _ _ _ HI2.out hb6, ?_, ?_⟩
          · rw [HRD.out, HST.out]; simp [hm]
          · exact (HF2.out.step (World.grownBy_alloc w2 _ none) (fun r e => by cases e)).step hgrow (fun r hr => .inr (hlow r hr))
          · rw [smpVals_snoc]; simp only [List.length_append, List.length_cons, List.length_nil, hm, Nat.zero_add]; exact hown'
        case measure => simp [lenOf]; omega
      · have hln : L.length = n := by omega
        have d1 : decide ((L.length : Int) < (n : Int)) = false := by simp; omega
        have HR : Hid (Ch.fin bd (Ch.rd f bd n [] s0) = L ∧ (Ch.rd f bd n [] s0).2 = s) := Lib.hid (by
          rw [HRD.out, show n - L.length = 0 from by omega, HFIN0.out]
          exact ⟨by unfold Ch.fin; rw [hbd]; rfl, rfl⟩)
        clear hbd
        generalize hm : L.length = m at *
        go_wp2_with fail
        go_ret
        obtain ⟨r1, r2⟩ := HR.out
        refine ⟨A, c, by rw [r1, hm]; rfl, by rw [r1, hm]; exact HOWN.out, by rw [r2]; exact HINV.out, HFAR.out⟩
    · rw [hbd] at c1
      have HR : Hid (Ch.fin bd (Ch.rd f bd n [] s0) = [] ∧ (Ch.rd f bd n [] s0).2 = s) := Lib.hid (by
        rw [HRD.out]
        have : Ch.rd f bd (n - L.length) L s = (L, s) := by
          cases n - L.length with
          | zero => rfl
          | succ k => rw [Ch.rd, hbd]; rfl
        rw [this]
        exact ⟨by unfold Ch.fin; rw [hbd]; rfl, rfl⟩)
      clear hbd
      generalize hm : L.length = m at *
      go_wp2_with fail
      go_ret
      obtain ⟨r1, r2⟩ := HR.out
      refine ⟨none, 0, by rw [r1]; rfl, by rw [r1]; exact World.ownsRow_nil _ _ _ _, by rw [r2]; exact HINV.out, HFAR.out⟩
set_option maxRecDepth 100000 in
set_option maxHeartbeats 2000000 in
/-- more than may be -/
theorem read_many (fv : FuncId) (cap : Array Value) (b : Nat) (s : ByteArray) (bad : Bool) (w : World) (hc : CurAt b s bad w) (n : Nat) (hn : 200 < n) :
    Calls Tryz.prog 48 #[.pointer (some ⟨b, 0, none⟩), .int .u64 (n : Nat), .func (.func fv) #[] cap] w fun e w' => e = .returned (.slice none 0 0) ∧ CurAt b s true w' ∧ w.grownBy w' (some b) := by
  have d0 : decide ((200 : Int) < (n : Int)) = true := by simp; omega
  obtain ⟨c0, c1, f0, f1⟩ := hc.cells
  have hw := hc.putBad true
  have hg := grown_setCell w b 1 (.bool true)
  obtain ⟨e0, e1, -, -⟩ := hw.cells
  have HW := Lib.hid hw; have HG := Lib.hid hg
  clear hc hw hg c0 e0
  go_enter Tryz.func48, Tryz.ntmps48
  go_wp2_with fail
  go_loopw [7] (fun l wr => l = .slice none 0 0 ∧ wr = w.setCell ⟨b, 1, none⟩ (.bool true)) (fun _ _ => 0)
  case atStart => exact ⟨rfl, rfl⟩
  case round =>
    obtain ⟨rfl, rfl⟩ := hrel
    go_wp2_with fail
    go_ret
    exact ⟨rfl, HW.out, HG.out⟩
end Go.Proofs.YtfgcgjogaaofdaaGreatDoor
