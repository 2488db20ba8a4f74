import Derived.Test.YtaillfnmaiiapaaWaL
/-
  A sample of generation 3, and a change behind another: the walks.
-/
namespace Go.Proofs.Ytaillfnmaiiapaa
open Go.RowKit
/-- the last sample, in two cells -/
structure TV (U : World) (tb vb : Nat) (t : Int) (v : Nat) : Prop where
  t : U.heap[tb]? = some (.cells #[.int .i64 t] 2 (0, 0))
  v : U.heap[vb]? = some (.cells #[.int .u64 (v : Int)] 50 (0, 0))
theorem TV.ne {U : World} {tb vb : Nat} {t : Int} {v : Nat} (h : TV U tb vb t v) : tb ≠ vb := by
  rintro rfl
  have := h.t
  rw [h.v] at this
  cases this
theorem TV.later {U V : World} {tb vb : Nat} {t : Int} {v : Nat} (h : TV U tb vb t v) (hb : Below U.heap.size U V) : TV V tb vb t v := ⟨heap_keep h.t hb, heap_keep h.v hb⟩
/-- all but what was told, and the last sample, stays -/
def NK3 (mb tb vb : Nat) (w V : World) : Prop := ∀ (g : Nat) (o : Obj), w.heap[g]? = some o → g ≠ mb → g ≠ tb → g ≠ vb → (∀ cs T fr, o = Obj.cells cs T fr → T ≠ 78 ∧ T ≠ 9) → V.heap[g]? = some o
theorem NK3.trans {mb tb vb : Nat} {w U V : World} (h : NK3 mb tb vb w U) (h2 : NK3 mb tb vb U V) : NK3 mb tb vb w V := fun g o ho h1 h3 h4 hn => h2 g o (h g o ho h1 h3 h4 hn) h1 h3 h4 hn
theorem NK3.nk {mb tb vb : Nat} {w U : World} (h : NKeeps mb w U) : NK3 mb tb vb w U := fun g o ho h1 _ _ hn => h g o ho h1 hn
theorem NK3.below {mb tb vb : Nat} {w U : World} (hb : Below w.heap.size w U) : NK3 mb tb vb w U := fun _ _ ho _ _ _ _ => heap_keep ho hb
theorem NK3.grown {mb tb vb : Nat} {w U : World} {g0 : Nat} (h0 : g0 = tb ∨ g0 = vb) (hg : w.grownBy U (some g0)) : NK3 mb tb vb w U := fun g o ho _ h3 h4 _ => (hg.block g (Array.getElem?_eq_some_iff.1 ho).1 (fun e => by
  obtain rfl : g = g0 := Option.some.inj e
  rcases h0 with h | h
  · exact h3 h
  · exact h4 h)).trans ho
/-- a block of another type is written: what was told stays -/
theorem NamesIn.grown {w w2 : World} {base nb mb g : Nat} {v : Value} {K : List ByteArray} {cs : Array Value} {T : TypeId} {fr : Nat × Nat} (h : NamesIn w base nb mb v K) (hc : w.heap[g]? = some (.cells cs T fr)) (hT : T ≠ 78 ∧ T ≠ 9) (hg : w.grownBy w2 (some g)) : NamesIn w2 base nb mb v K := by
  refine ⟨(hg.block nb (Array.getElem?_eq_some_iff.1 h.cells).1 (fun e => ?_)).trans h.cells, row_kept h.keys hg (fun r e => ?_), h.map.kept hg (fun e => ?_), h.nlo, h.mlo⟩
  · obtain rfl : nb = g := Option.some.inj e
    rw [h.cells] at hc
    cases hc
    exact hT.1 rfl
  · obtain rfl : g = r := Option.some.inj e
    exact own_not h.keys hc (fun cs2 fr2 e2 => by cases e2; exact hT.2 rfl)
  · obtain rfl : mb = g := Option.some.inj e
    obtain ⟨es, clock, hb, -⟩ := h.map
    rw [hb] at hc
    cases hc
theorem BldAt.nk3 {w w2 : World} {mb tb vb base b : Nat} {l : List UInt8} {t : Int} {v : Nat} (h : BldAt w base b l) (hk : NK3 mb tb vb w w2) (hm : ∀ e cs fr, w.heap[mb]? ≠ some (.cells cs e fr)) (ht : TV w tb vb t v) : BldAt w2 base b l := by
  have hne : ∀ {g : Nat} {cs : Array Value} {T : TypeId} {fr : Nat × Nat}, w.heap[g]? = some (.cells cs T fr) → T ≠ 2 → T ≠ 50 → g ≠ tb ∧ g ≠ vb := fun hc h1 h2 =>
    ⟨by rintro rfl; rw [ht.t] at hc; cases hc; exact h1 rfl, by rintro rfl; rw [ht.v] at hc; cases hc; exact h2 rfl⟩
  have one : ∀ {p : Value} {l : List Value}, Lib.BuilderAt 119 5 base b p l w → Lib.BuilderAt 119 5 base b p l w2 := by
    rintro p l ⟨h1, v, h2, h3, h4⟩
    have hn := hne h2 (by decide) (by decide)
    refine ⟨h1, v, hk b _ h2 (by rintro rfl; exact hm _ _ _ h2) hn.1 hn.2 (fun cs T fr e => by cases e; exact ⟨by decide, by decide⟩), ⟨h3.1, ?_⟩, h4⟩
    rcases h3.2 with h0 | ⟨g, cap, cur, rfl, hb, hc, hx⟩
    · exact Or.inl h0
    · have hn2 := hne hc (by decide) (by decide)
      exact Or.inr ⟨g, cap, cur, rfl, hb, hk g _ hc (by rintro rfl; exact hm _ _ _ hc) hn2.1 hn2.2 (fun cs T fr e2 => by cases e2; exact ⟨by decide, by decide⟩), hx⟩
  rcases h with h | h
  · exact .inl (one h)
  · exact .inr (one h)
theorem Wa.smp_three (t : Int) (v : Nat) (r : Wa.Rec) : Wa.smp false t v r = Num.smallB (Num.zig (r.t - t)) ++ Num.smallB (r.v ^^^ v) := rfl
/-- what a sample's telling comes to -/
def Smp3 (tb vb : Nat) (t2 : Int) (v2 : Nat) (U V : World) : Prop := ∃ M1 M2, Below U.heap.size U M1 ∧ M1.grownBy M2 (some tb) ∧ M2.grownBy V (some vb) ∧ TV V tb vb t2 v2
set_option maxRecDepth 100000 in
set_option maxHeartbeats 1000000 in
theorem smp3_any (r : Wa.Rec) (A : Option Addr) (c : Nat) (hT : Wa.isT r.t = true) (hv : r.v < 18446744073709551616) (t0 : Int) (v0 : Nat) (hT0 : Wa.isT t0 = true) (hv0 : v0 < 18446744073709551616) (tb vb : Nat) (w : World) (h : TV w tb vb t0 v0) :
    Calls Try.prog 102 #[.agg (recC r A c), .pointer (some ⟨tb, 0, none⟩), .pointer (some ⟨vb, 0, none⟩)] w fun e w' => e = .returned (.string (Wa.smp false t0 v0 r)) ∧ Smp3 tb vb r.t r.v w w' := by
  rw [Wa.smp_three]
  unfold Wa.isT at hT hT0
  simp only [decide_eq_true_eq] at hT hT0
  have z1 := Fr.small_le (Num.zig (r.t - t0)); have z2 := Fr.small_le (r.v ^^^ v0)
  have hx : r.v ^^^ v0 < 18446744073709551616 := Nat.xor_lt_two_pow (n := 64) hv hv0
  have exor : bits BinOp.xor .u64 (r.v : Int) (v0 : Int) = ((r.v ^^^ v0 : Nat) : Int) := u64_xor_nat _ _ hv hv0
  have e1 : IntKind.i64.wrap (r.t - t0) = r.t - t0 := IntWalk.i64_in _ (by omega)
  have e2 : wrap64 (r.t - t0) = r.t - t0 := IntWalk.wrap64_in _ ⟨by omega, by omega⟩
  have HZ := Lib.hid (fun W => Zig_any (r.t - t0) (Lib.hid (by omega)) W)
  have HP := Lib.hid (fun W => Small_any (Num.zig (r.t - t0)) (Lib.hid (Num.zig_lt (r.t - t0) (by omega) (by omega))) W); have HQ := Lib.hid (fun W => Small_any (r.v ^^^ v0) (Lib.hid hx) W)
  obtain ⟨kind, l, t, hi, vv⟩ := r
  simp only at hT hv z1 z2 hx exor e1 e2 HZ HP HQ ⊢
  have n1 : ¬ 9223372036854775807 < (Num.smallB (Num.zig (t - t0))).size + (Num.smallB (vv ^^^ v0)).size := by omega
  generalize Num.smallB (Num.zig (t - t0)) = p1 at *
  generalize Num.smallB (vv ^^^ v0) = p2 at *
  generalize Num.zig (t - t0) = y1 at *
  generalize vv ^^^ v0 = y2 at *
  have HTV := Lib.hid h
  clear z1 z2 hT hT0 hv hv0 hx h
  unfold recC
  simp only
  go_enter Try.func102, Try.ntmps102
  go_wp2_with fail
  obtain ⟨wa, hwa⟩ : ∃ wa, wa = w.alloc (.cells #[.int .i64 kind, .slice A l.length c, .int .i64 t, .int .i64 hi, .int .u64 (vv : Int)] 52) := ⟨_, rfl⟩
  have hba : Below w.heap.size w wa := by rw [hwa]; exact (Below.refl _ _).alloc (Nat.le_refl _) _
  have hxa : wa.heap[w.heap.size]? = some (.cells #[.int .i64 kind, .slice A l.length c, .int .i64 t, .int .i64 hi, .int .u64 (vv : Int)] 52 (0, 0)) := by rw [hwa]; exact heap_alloc_new w _
  rw [← hwa]
  have HBA := Lib.hid hba
  obtain ⟨b0, hb0⟩ : ∃ b0, b0 = w.heap.size := ⟨_, rfl⟩
  rw [← hb0] at hxa ⊢
  have HXA := Lib.hid hxa; have HB0 := Lib.hid hb0
  have HTV1 := Lib.hid (HTV.out.later hba)
  clear hwa hba hxa hb0
  refine plain_robJ [(0, some 6), (1, some 7), (2, some 8), (3, some 9), (4, some 10), (5, some 11), (6, some 12), (7, some 13), (8, some 14), (9, some 15), (10, some 16), (11, some 17), (12, some 5)] [] (fun U V => Below U.heap.size U V) (fun U => Below w.heap.size w U ∧ U.heap[b0]? = some (.cells #[.int .i64 kind, .slice A l.length c, .int .i64 t, .int .i64 hi, .int .u64 (vv : Int)] 52 (0, 0)) ∧ TV U tb vb t0 v0) [(0, .pointer (some ⟨b0, 2, none⟩)), (1, .int .i64 t), (2, .int .i64 t0), (3, .int .i64 (t - t0)), (4, .int .u64 (y1 : Int)), (5, .string p1), (6, .pointer (some ⟨b0, 4, none⟩)), (7, .int .u64 (vv : Int)), (8, .int .u64 (v0 : Int)), (9, .int .u64 (y2 : Int)), (10, .string p2), (11, .string (p1 ++ p2)), (12, .string (p1 ++ p2))] [] 0 (by kernel_rfl) (by kernel_rfl) (by kernel_rfl) (⟨HBA.out.drew, HXA.out, HTV1.out.later (Below.refl _ _).drew⟩) (fun U V h hb => ⟨h.1.trans (hb.mono h.1.size), heap_keep h.2.1 hb, h.2.2.later hb⟩) ?_ ?_ ?_
  · intro p hp; cases hp
  · refine ⟨⟨_, rfl, fun ν U hU hp => ?_⟩, ?_⟩
    · simp only [putsν, Act.put, List.setIfInBounds_toArray, List.set_cons_zero, List.set_cons_succ]
      exact Yld.value (.pointer (some ⟨b0, 2, none⟩)) U (by kernel_rfl) (by go_simp) ⟨Below.refl _ _, Fx.fixed rfl rfl⟩
    refine ⟨⟨_, rfl, fun ν U hU hp => ?_⟩, ?_⟩
    · simp only [putsν, Act.put, List.setIfInBounds_toArray, List.set_cons_zero, List.set_cons_succ]
      have e0 := (hp 0 (by kernel_rfl) (by kernel_rfl)).val _ rfl
      simp only [e0]
      exact Yld.value (.int .i64 t) U (by kernel_rfl) (by have h0 : U.cell? ⟨b0, 2, none⟩ = some (.int .i64 t) := cell_of_row _ _ _ _ _ _ hU.2.1; go_simp) ⟨Below.refl _ _, Fx.fixed rfl rfl⟩
    refine ⟨⟨_, rfl, fun ν U hU hp => ?_⟩, ?_⟩
    · simp only [putsν, Act.put, List.setIfInBounds_toArray, List.set_cons_zero, List.set_cons_succ]
      exact Yld.value (.int .i64 t0) U (by kernel_rfl) (by have h0 : U.cell? ⟨tb, 0, none⟩ = some (.int .i64 t0) := cell_of_row _ _ _ _ _ _ hU.2.2.t; go_simp) ⟨Below.refl _ _, Fx.fixed rfl rfl⟩
    refine ⟨⟨_, rfl, fun ν U hU hp => ?_⟩, ?_⟩
    · simp only [putsν, Act.put, List.setIfInBounds_toArray, List.set_cons_zero, List.set_cons_succ]
      have e1 := (hp 1 (by kernel_rfl) (by kernel_rfl)).val _ rfl
      have e2 := (hp 2 (by kernel_rfl) (by kernel_rfl)).val _ rfl
      simp only [e1, e2]
      exact Yld.value (.int .i64 (t - t0)) U (by kernel_rfl) (by go_simp) ⟨Below.refl _ _, Fx.fixed rfl rfl⟩
    refine ⟨⟨_, rfl, fun ν U hU hp => ?_⟩, ?_⟩
    · simp only [putsν, Act.put, List.setIfInBounds_toArray, List.set_cons_zero, List.set_cons_succ]
      have e3 := (hp 3 (by kernel_rfl) (by kernel_rfl)).val _ rfl
      simp only [e3]
      refine Yld.call 90 #[.int .i64 (t - t0)] (by kernel_rfl) (by go_simp) ?_
      have hcall := HZ.out U
      refine hcall.mono ?_
      rintro e V ⟨rfl, rfl⟩; exact ⟨_, rfl, Below.refl _ _, Fx.fixed rfl rfl⟩
    refine ⟨⟨_, rfl, fun ν U hU hp => ?_⟩, ?_⟩
    · simp only [putsν, Act.put, List.setIfInBounds_toArray, List.set_cons_zero, List.set_cons_succ]
      have e4 := (hp 4 (by kernel_rfl) (by kernel_rfl)).val _ rfl
      simp only [e4]
      refine Yld.call 82 #[.int .u64 (y1 : Int)] (by kernel_rfl) (by go_simp) ?_
      have hcall := HP.out U
      refine hcall.mono ?_
      rintro e V ⟨rfl, hb⟩; exact ⟨_, rfl, hb, Fx.fixed rfl rfl⟩
    refine ⟨⟨_, rfl, fun ν U hU hp => ?_⟩, ?_⟩
    · simp only [putsν, Act.put, List.setIfInBounds_toArray, List.set_cons_zero, List.set_cons_succ]
      exact Yld.value (.pointer (some ⟨b0, 4, none⟩)) U (by kernel_rfl) (by go_simp) ⟨Below.refl _ _, Fx.fixed rfl rfl⟩
    refine ⟨⟨_, rfl, fun ν U hU hp => ?_⟩, ?_⟩
    · simp only [putsν, Act.put, List.setIfInBounds_toArray, List.set_cons_zero, List.set_cons_succ]
      have e6 := (hp 6 (by kernel_rfl) (by kernel_rfl)).val _ rfl
      simp only [e6]
      exact Yld.value (.int .u64 (vv : Int)) U (by kernel_rfl) (by have h0 : U.cell? ⟨b0, 4, none⟩ = some (.int .u64 (vv : Int)) := cell_of_row _ _ _ _ _ _ hU.2.1; go_simp) ⟨Below.refl _ _, Fx.fixed rfl rfl⟩
    refine ⟨⟨_, rfl, fun ν U hU hp => ?_⟩, ?_⟩
    · simp only [putsν, Act.put, List.setIfInBounds_toArray, List.set_cons_zero, List.set_cons_succ]
      exact Yld.value (.int .u64 (v0 : Int)) U (by kernel_rfl) (by have h0 : U.cell? ⟨vb, 0, none⟩ = some (.int .u64 (v0 : Int)) := cell_of_row _ _ _ _ _ _ hU.2.2.v; go_simp) ⟨Below.refl _ _, Fx.fixed rfl rfl⟩
    refine ⟨⟨_, rfl, fun ν U hU hp => ?_⟩, ?_⟩
    · simp only [putsν, Act.put, List.setIfInBounds_toArray, List.set_cons_zero, List.set_cons_succ]
      have e7 := (hp 7 (by kernel_rfl) (by kernel_rfl)).val _ rfl
      have e8 := (hp 8 (by kernel_rfl) (by kernel_rfl)).val _ rfl
      simp only [e7, e8]
      exact Yld.value (.int .u64 (y2 : Int)) U (by kernel_rfl) (by go_simp) ⟨Below.refl _ _, Fx.fixed rfl rfl⟩
    refine ⟨⟨_, rfl, fun ν U hU hp => ?_⟩, ?_⟩
    · simp only [putsν, Act.put, List.setIfInBounds_toArray, List.set_cons_zero, List.set_cons_succ]
      have e9 := (hp 9 (by kernel_rfl) (by kernel_rfl)).val _ rfl
      simp only [e9]
      refine Yld.call 82 #[.int .u64 (y2 : Int)] (by kernel_rfl) (by go_simp) ?_
      have hcall := HQ.out U
      refine hcall.mono ?_
      rintro e V ⟨rfl, hb⟩; exact ⟨_, rfl, hb, Fx.fixed rfl rfl⟩
    refine ⟨⟨_, rfl, fun ν U hU hp => ?_⟩, ?_⟩
    · simp only [putsν, Act.put, List.setIfInBounds_toArray, List.set_cons_zero, List.set_cons_succ]
      have e5 := (hp 5 (by kernel_rfl) (by kernel_rfl)).val _ rfl
      have e10 := (hp 10 (by kernel_rfl) (by kernel_rfl)).val _ rfl
      simp only [e5, e10]
      exact Yld.value (.string (p1 ++ p2)) U (by kernel_rfl) (by go_simp) ⟨Below.refl _ _, Fx.fixed rfl rfl⟩
    refine ⟨⟨_, rfl, fun ν U hU hp => ?_⟩, ?_⟩
    · simp only [putsν, Act.put, List.setIfInBounds_toArray, List.set_cons_zero, List.set_cons_succ]
      have e11 := (hp 11 (by kernel_rfl) (by kernel_rfl)).val _ rfl
      simp only [e11]
      exact Yld.value (.string (p1 ++ p2)) U (by kernel_rfl) (by go_simp) ⟨Below.refl _ _, Fx.fixed rfl rfl⟩
    trivial
  intro ν w2 hS2 hf
  have e0 := (hf 0 (by kernel_rfl)).val _ rfl
  have e1 := (hf 1 (by kernel_rfl)).val _ rfl
  have e2 := (hf 2 (by kernel_rfl)).val _ rfl
  have e3 := (hf 3 (by kernel_rfl)).val _ rfl
  have e4 := (hf 4 (by kernel_rfl)).val _ rfl
  have e5 := (hf 5 (by kernel_rfl)).val _ rfl
  have e6 := (hf 6 (by kernel_rfl)).val _ rfl
  have e7 := (hf 7 (by kernel_rfl)).val _ rfl
  have e8 := (hf 8 (by kernel_rfl)).val _ rfl
  have e9 := (hf 9 (by kernel_rfl)).val _ rfl
  have e10 := (hf 10 (by kernel_rfl)).val _ rfl
  have e11 := (hf 11 (by kernel_rfl)).val _ rfl
  have e12 := (hf 12 (by kernel_rfl)).val _ rfl
  simp only [putsν, Act.put, List.setIfInBounds_toArray, List.set_cons_zero, List.set_cons_succ, e0, e1, e2, e3, e4, e5, e6, e7, e8, e9, e10, e11, e12]
  clear hf e0 e1 e2 e3 e4 e5 e6 e7 e8 e9 e10 e11 e12
  refine wpAnyT_done (by kernel_rfl) ?_ _
  refine only_mk ?_
  have HS2 := Lib.hid hS2
  clear hS2 exor e1 e2 n1 HZ HP HQ HXA HBA HTV1
  go_wp2_with fail
  refine plain_robD [(0, some 18), (1, some 19), (2, some 20), (3, some 21), (4, none)] [5] (fun U V => U.grownBy V (some tb)) (fun δ U => w2.grownBy U (some tb) ∧ U.heap[b0]? = some (.cells #[.int .i64 kind, .slice A l.length c, .int .i64 t, .int .i64 hi, .int .u64 (vv : Int)] 52 (0, 0)) ∧ (if δ 4 = true then TV U tb vb t v0 else TV U tb vb t0 v0)) [(0, .pointer (some ⟨b0, 2, none⟩)), (1, .int .i64 t), (2, .pointer (some ⟨b0, 4, none⟩)), (3, .int .u64 (vv : Int)), (4, undef)] [] 1 (by kernel_rfl) (by kernel_rfl) (by kernel_rfl) (⟨grown_drew (grown_refl _ _), HS2.out.2.1, HS2.out.2.2.later (Below.refl _ _).drew⟩) ?_ ?_ ?_
  · intro p hp; cases hp
  · refine ⟨⟨_, rfl, fun ν δ U hU h00 h1 h2 hp => ?_⟩, ?_⟩
    · simp only [putsν, Act.put, List.setIfInBounds_toArray, List.set_cons_zero, List.set_cons_succ]
      dsimp only at hU
      exact Yld.value (.pointer (some ⟨b0, 2, none⟩)) U (by kernel_rfl) (by go_simp) ⟨grown_refl _ _, hU, Fx.fixed rfl rfl⟩
    refine ⟨⟨_, rfl, fun ν δ U hU h00 h1 h2 hp => ?_⟩, ?_⟩
    · simp only [putsν, Act.put, List.setIfInBounds_toArray, List.set_cons_zero, List.set_cons_succ]
      have e0 := (hp 0 (by kernel_rfl) (by kernel_rfl)).val _ rfl
      simp only [e0]
      dsimp only at hU
      exact Yld.value (.int .i64 t) U (by kernel_rfl) (by have h0 : U.cell? ⟨b0, 2, none⟩ = some (.int .i64 t) := cell_of_row _ _ _ _ _ _ hU.2.1; go_simp) ⟨grown_refl _ _, hU, Fx.fixed rfl rfl⟩
    refine ⟨⟨_, rfl, fun ν δ U hU h00 h1 h2 hp => ?_⟩, ?_⟩
    · simp only [putsν, Act.put, List.setIfInBounds_toArray, List.set_cons_zero, List.set_cons_succ]
      dsimp only at hU
      exact Yld.value (.pointer (some ⟨b0, 4, none⟩)) U (by kernel_rfl) (by go_simp) ⟨grown_refl _ _, hU, Fx.fixed rfl rfl⟩
    refine ⟨⟨_, rfl, fun ν δ U hU h00 h1 h2 hp => ?_⟩, ?_⟩
    · simp only [putsν, Act.put, List.setIfInBounds_toArray, List.set_cons_zero, List.set_cons_succ]
      have e2 := (hp 2 (by kernel_rfl) (by kernel_rfl)).val _ rfl
      simp only [e2]
      dsimp only at hU
      exact Yld.value (.int .u64 (vv : Int)) U (by kernel_rfl) (by have h0 : U.cell? ⟨b0, 4, none⟩ = some (.int .u64 (vv : Int)) := cell_of_row _ _ _ _ _ _ hU.2.1; go_simp) ⟨grown_refl _ _, hU, Fx.fixed rfl rfl⟩
    refine ⟨⟨_, rfl, fun ν δ U hU h00 h1 h2 hp => ?_⟩, ?_⟩
    · simp only [putsν, Act.put, List.setIfInBounds_toArray, List.set_cons_zero, List.set_cons_succ]
      have e1 := (hp 1 (by kernel_rfl) (by kernel_rfl)).val _ rfl
      simp only [e1]
      dsimp only at hU
      rw [if_neg (by rw [h00]; decide)] at hU
      have y0 := cell_of_row _ _ 0 _ _ _ hU.2.2.t
      have f0 := frozen_of_row _ _ 0 _ _ hU.2.2.t
      simp only [List.getElem?_toArray, List.getElem?_cons_zero] at y0
      have hgs := grown_setCell U tb 0 (.int .i64 t)
      exact Yld.store (U.setCell ⟨tb, 0, none⟩ (.int .i64 t)) (by kernel_rfl) (by go_simp) ⟨hgs, ⟨grown_trans hU.1 hgs, grown_keep hU.2.1 hgs (fun e => by have hx := hU.2.1; rw [e, hU.2.2.t] at hx; cases hx), by rw [if_pos (by simp)]; exact ⟨heap_setCell_same U tb 0 _ _ _ hU.2.2.t, grown_keep hU.2.2.v hgs (fun e => hU.2.2.ne e.symm)⟩⟩, Fx.fixed rfl rfl⟩
    trivial
  intro ν δ w3 hS3 hd hf
  have e0 := (hf 0 (by kernel_rfl)).val _ rfl
  have e1 := (hf 1 (by kernel_rfl)).val _ rfl
  have e2 := (hf 2 (by kernel_rfl)).val _ rfl
  have e3 := (hf 3 (by kernel_rfl)).val _ rfl
  simp only [putsν, Act.put, List.setIfInBounds_toArray, List.set_cons_zero, List.set_cons_succ, e0, e1, e2, e3]
  clear hf e0 e1 e2 e3
  rw [if_pos (hd 4 (by kernel_rfl))] at hS3
  obtain ⟨hg3, hb3, ht3⟩ := hS3
  have y0 := cell_of_row _ _ 0 _ _ _ ht3.v; have f0 := frozen_of_row _ _ 0 _ _ ht3.v
  simp only [List.getElem?_toArray, List.getElem?_cons_zero] at y0
  clear hd
  refine wpAnyT_one (i := 5) (by kernel_rfl) rfl (by kernel_rfl) ?_
  intro K hK
  unfold Oper.wp
  go_simp
  have hgs := grown_setCell w3 vb 0 (.int .u64 (vv : Int))
  have HFIN : Hid (Smp3 tb vb t vv w (w3.setCell ⟨vb, 0, none⟩ (.int .u64 (vv : Int)))) := Lib.hid ⟨w2, w3, HS2.out.1, hg3, hgs, grown_keep ht3.t hgs ht3.ne, heap_setCell_same w3 vb 0 _ _ _ ht3.v⟩
  refine hK _ _ (fun _ => trivial) ?_
  clear hK K
  refine wpAnyT_done (by kernel_rfl) ?_ _
  refine only_mk ?_
  clear hgs hg3 hb3 ht3 y0 f0
  go_wp2_with fail
  go_ret
  exact ⟨rfl, HFIN.out⟩
end Go.Proofs.Ytaillfnmaiiapaa
/-
  Changes as bytes in generation 3: the walk.
-/
namespace Go.Proofs.Ytaillfnmaiiapaa
open Go.RowKit
/-- a change was told, in generation 3 -/
structure Told3 (w : World) (base nb mb tb vb : Nat) (K : List ByteArray) (t : Int) (v : Nat) (V : World) : Prop where
  nam : ∃ v', NamesIn V base nb mb v' K
  tv : TV V tb vb t v
  nk : NK3 mb tb vb w V
  bel : Below base w V
theorem Told3.later {w : World} {base nb mb tb vb : Nat} {K : List ByteArray} {t : Int} {v : Nat} {U V : World} (h : Told3 w base nb mb tb vb K t v U) (hb : Below U.heap.size U V) (hw : base ≤ w.heap.size) : Told3 w base nb mb tb vb K t v V := by
  obtain ⟨v', hn⟩ := h.nam
  exact ⟨⟨v', hn.later hb⟩, h.tv.later hb, h.nk.trans (NK3.below hb), h.bel.trans (hb.mono (by have := h.bel.size; omega))⟩
theorem tell3_any {w : World} {base nb mb tb vb : Nat} {v : Value} {K : List ByteArray} (h : NamesIn w base nb mb v K) (hK : K.length ≤ 900000) (r : Wa.Rec) (A : Option Addr) (c : Nat) (hr : RecIn w A r) (hm : Wa.may r = true) {t0 : Int} {v0 : Nat} (hT0 : Wa.isT t0 = true) (hv0 : v0 < 18446744073709551616) (htv : TV w tb vb t0 v0) (htb : base ≤ tb ∧ base ≤ vb) :
    Calls Try.prog 80 #[.agg #[.pointer (some ⟨nb, 0, none⟩)], .agg (recC r A c), .func (.func 102) #[] #[.pointer (some ⟨tb, 0, none⟩), .pointer (some ⟨vb, 0, none⟩)]] w fun e V => e = .returned (.string (Wa.tell false K t0 v0 r).1) ∧ Told3 w base nb mb tb vb (Wa.tell false K t0 v0 r).2 (Wa.nextT r t0) (Wa.nextV r v0) V := by
  have hbs : base ≤ w.heap.size := by have h1 := (Array.getElem?_eq_some_iff.1 h.cells).1; have h2 := h.nlo; omega
  have tvk : ∀ U, NKeeps mb w U → TV U tb vb t0 v0 := fun U hk =>
    ⟨hk tb _ htv.t (by rintro rfl; exact h.mcells _ _ _ htv.t) (fun cs T fr e => by cases e; exact ⟨by decide, by decide⟩), hk vb _ htv.v (by rintro rfl; exact h.mcells _ _ _ htv.v) (fun cs T fr e => by cases e; exact ⟨by decide, by decide⟩)⟩
  have fin : ∀ e V, TellEnd w base nb mb (fun U V => (TV U tb vb t0 v0 → TV V tb vb (Wa.nextT r t0) (Wa.nextV r v0)) ∧ ∃ M1 M2, Below U.heap.size U M1 ∧ M1.grownBy M2 (some tb) ∧ M2.grownBy V (some vb)) (Wa.tell false K t0 v0 r) e V → e = .returned (.string (Wa.tell false K t0 v0 r).1) ∧ Told3 w base nb mb tb vb (Wa.tell false K t0 v0 r).2 (Wa.nextT r t0) (Wa.nextV r v0) V := by
    rintro e V ⟨rfl, U, hs, hj, M1, M2, hb, hg1, hg2⟩
    have ht := tvk U hs.nk
    obtain ⟨v', hn⟩ := hs.nam
    have ht1 := ht.later hb
    have hn1 := hn.later hb
    have hn2 := hn1.grown ht1.t ⟨by decide, by decide⟩ hg1
    have hv2 := grown_keep ht1.v hg1 (fun e => ht1.ne e.symm)
    have hn3 := hn2.grown hv2 ⟨by decide, by decide⟩ hg2
    have b1 := hs.bel.trans (hb.mono (by have := hs.bel.size; omega))
    have b2 := b1.grown hg1 (by have := b1.size; omega) (fun r e => by obtain rfl : tb = r := Option.some.inj e; exact htb.1)
    have b3 := b2.grown hg2 (by have := b2.size; omega) (fun r e => by obtain rfl : vb = r := Option.some.inj e; exact htb.2)
    exact ⟨rfl, ⟨v', hn3⟩, hj ht, (((NK3.nk hs.nk).trans (NK3.below hb)).trans (NK3.grown (.inl rfl) hg1)).trans (NK3.grown (.inr rfl) hg2), b3⟩
  obtain ⟨hk, -⟩ := Wa.may_kind hm
  have same : r.kind ≠ 0 → ∀ U, (TV U tb vb t0 v0 → TV U tb vb (Wa.nextT r t0) (Wa.nextV r v0)) ∧ ∃ M1 M2, Below U.heap.size U M1 ∧ M1.grownBy M2 (some tb) ∧ M2.grownBy U (some vb) := fun h0 U => by
    unfold Wa.nextT Wa.nextV
    rw [if_neg h0, if_neg h0]
    exact ⟨id, U, U, Below.refl _ _, grown_refl _ _, grown_refl _ _⟩
  rcases hk with hk | hk | hk
  · refine (tell_0 h hK r A c hr hk false t0 v0 102 #[.pointer (some ⟨tb, 0, none⟩), .pointer (some ⟨vb, 0, none⟩)] (fun args U => by kernel_rfl) (fun U V => (TV U tb vb t0 v0 → TV V tb vb (Wa.nextT r t0) (Wa.nextV r v0)) ∧ ∃ M1 M2, Below U.heap.size U M1 ∧ M1.grownBy M2 (some tb) ∧ M2.grownBy V (some vb)) (fun U _ hkU _ => ?_)).mono fin
    have hT : Wa.isT r.t = true := by
      unfold Wa.may at hm
      rw [if_pos hk] at hm
      simp only [Bool.and_eq_true] at hm
      exact hm.1.2
    have hc := smp3_any r A c hT hr.words.v1 t0 v0 hT0 hv0 tb vb U (tvk U hkU)
    refine hc.mono ?_
    rintro e V ⟨rfl, M1, M2, h1, h2, h3, h4⟩
    refine ⟨rfl, fun _ => ?_, M1, M2, h1, h2, h3⟩
    unfold Wa.nextT Wa.nextV
    rw [if_pos hk, if_pos hk]
    exact h4
  · exact (tell_1 h hK r A c hr hk false t0 v0 102 #[.pointer (some ⟨tb, 0, none⟩), .pointer (some ⟨vb, 0, none⟩)] (fun U V => (TV U tb vb t0 v0 → TV V tb vb (Wa.nextT r t0) (Wa.nextV r v0)) ∧ ∃ M1 M2, Below U.heap.size U M1 ∧ M1.grownBy M2 (some tb) ∧ M2.grownBy V (some vb)) (same (by rw [hk]; decide))).mono fin
  · refine (tell_2 h r A c hr hk ?_ false t0 v0 102 #[.pointer (some ⟨tb, 0, none⟩), .pointer (some ⟨vb, 0, none⟩)] (fun U V => (TV U tb vb t0 v0 → TV V tb vb (Wa.nextT r t0) (Wa.nextV r v0)) ∧ ∃ M1 M2, Below U.heap.size U M1 ∧ M1.grownBy M2 (some tb) ∧ M2.grownBy V (some vb)) (same (by rw [hk]; decide))).mono fin
    unfold Wa.may at hm
    rw [if_neg (by rw [hk]; decide), if_neg (by rw [hk]; decide), if_pos hk] at hm
    simp only [Bool.and_eq_true] at hm
    exact hm.1.1.2
theorem Wa.tells_succ (f : Nat → Wa.Rec) (K : List ByteArray) (i : Nat) : Wa.tells f K (i + 1) = ((Wa.tells f K i).1 ++ (Wa.tell false (Wa.tells f K i).2.1 (Wa.tells f K i).2.2.1 (Wa.tells f K i).2.2.2 (f i)).1,
      (Wa.tell false (Wa.tells f K i).2.1 (Wa.tells f K i).2.2.1 (Wa.tells f K i).2.2.2 (f i)).2, Wa.nextT (f i) (Wa.tells f K i).2.2.1, Wa.nextV (f i) (Wa.tells f K i).2.2.2) := rfl
theorem Wa.tells_tv (f : Nat → Wa.Rec) (K : List ByteArray) (n : Nat) (hf : ∀ i, i < n → Wa.may (f i) = true ∧ Wa.Words (f i)) : ∀ i, i ≤ n →
    (Wa.tells f K i).2.1.length ≤ K.length + i ∧ Wa.isT (Wa.tells f K i).2.2.1 = true ∧ (Wa.tells f K i).2.2.2 < 18446744073709551616 ∧ (Wa.tells f K i).1.size ≤ 3800 * i
  | 0, _ => ⟨Nat.le_refl _, rfl, by show (0 : Nat) < _; decide, Nat.le_refl _⟩
  | i + 1, hi => by
    obtain ⟨h2, h3, h4, h5⟩ := Wa.tells_tv f K n hf i (by omega)
    obtain ⟨hm, hw⟩ := hf i (by omega)
    have h6 := Wa.tell_size (two := false) (K := (Wa.tells f K i).2.1) (t := (Wa.tells f K i).2.2.1) (v := (Wa.tells f K i).2.2.2) hm
    rw [Wa.tells_succ]
    refine ⟨?_, ?_, ?_, ?_⟩
    · have := Wa.tell_len false (Wa.tells f K i).2.1 (Wa.tells f K i).2.2.1 (Wa.tells f K i).2.2.2 (f i)
      show (Wa.tell false _ _ _ (f i)).2.length ≤ _
      omega
    · show Wa.isT (Wa.nextT (f i) (Wa.tells f K i).2.2.1) = true
      unfold Wa.nextT
      split
      · rename_i h0
        unfold Wa.may at hm
        rw [if_pos h0] at hm
        simp only [Bool.and_eq_true] at hm
        exact hm.1.2
      · exact h3
    · show Wa.nextV (f i) (Wa.tells f K i).2.2.2 < _
      unfold Wa.nextV
      split
      · exact hw.v1
      · exact h4
    · show ((Wa.tells f K i).1 ++ _).size ≤ _
      rw [ByteArray.size_append]; omega
theorem Wa.tells_mono (f : Nat → Wa.Rec) (K : List ByteArray) (i : Nat) : ∀ j, (Wa.tells f K i).1.size ≤ (Wa.tells f K (i + j)).1.size
  | 0 => Nat.le_refl _
  | j + 1 => by
    have := Wa.tells_mono f K i j
    show _ ≤ (Wa.tells f K (i + j + 1)).1.size
    rw [Wa.tells_succ]
    show _ ≤ ((Wa.tells f K (i + j)).1 ++ _).size
    rw [ByteArray.size_append]; omega
/-- what put comes to, in generation 3: bytes, whether they are few enough, and the keys -/
def Wa.put3 (f : Nat → Wa.Rec) (K : List ByteArray) (n : Nat) : ByteArray × Bool × List ByteArray :=
  if n = 0 then (ByteArray.empty, true, K) else if 20000 < (Wa.batch f K n).size then (ByteArray.empty, false, K) else (Fr.put (Wa.batch f K n), true, (Wa.tells f K n).2.1)
/-- what put comes to -/
def PutEnd (w : World) (base nb mb : Nat) (X : ByteArray × Bool × List ByteArray) (e : Ending) (V : World) : Prop :=
  e = .returned (.tuple #[.string X.1, .bool X.2.1]) ∧ Below base w V ∧ (X.2.1 = true → ∃ v', NamesIn V base nb mb v' X.2.2)
theorem ba_back (s : ByteArray) : (⟨s.data.toList.toArray⟩ : ByteArray) = s := by simp
/-- a builder's length -/
theorem bldLen (base b : Nat) (l : List UInt8) (w : World) (h : BldAt w base b l) :
    Calls Try.prog 103 #[.pointer (some ⟨b, 0, none⟩)] w fun e w' => e = .returned (.int .i64 (l.length : Int)) ∧ w' = w := by
  have hl : (byteVals l).length = l.length := by simp [byteVals]
  have := Try.Builder_Len base b (byteVals l) w h
  rw [hl] at this
  exact this
theorem Wa.put3_zero (f : Nat → Wa.Rec) (K : List ByteArray) : Wa.put3 f K 0 = (ByteArray.empty, true, K) := by unfold Wa.put3; rw [if_pos rfl]
theorem Wa.put3_over {f : Nat → Wa.Rec} {K : List ByteArray} {n k : Nat} (hk : k ≤ n) (h0 : n ≠ 0) (h : 20000 < (Num.smallB n ++ (Wa.tells f K k).1).size) : Wa.put3 f K n = (ByteArray.empty, false, K) := by
  unfold Wa.put3
  rw [if_neg h0, if_pos]
  unfold Wa.batch
  have := Wa.tells_mono f K k (n - k)
  rw [show k + (n - k) = n from by omega] at this
  rw [ByteArray.size_append] at h ⊢
  omega
theorem Wa.put3_in {f : Nat → Wa.Rec} {K : List ByteArray} {n : Nat} (h0 : n ≠ 0) (h : (Num.smallB n ++ (Wa.tells f K n).1).size ≤ 20000) : Wa.put3 f K n = (Fr.put (Num.smallB n ++ (Wa.tells f K n).1), true, (Wa.tells f K n).2.1) := by
  unfold Wa.put3
  rw [if_neg h0, if_neg]
  · rfl
  · unfold Wa.batch; omega
/-- the builder is written: what was told stays -/
theorem Told3.bld {w : World} {base nb mb tb vb bb : Nat} {K : List ByteArray} {t : Int} {v : Nat} {U V : World} (h : Told3 w base nb mb tb vb K t v U) {cs : Array Value} (hbb : U.heap[bb]? = some (.cells cs 119 (0, 0))) (hb : Below bb U V) (ho : Others bb U V) (hlo : w.heap.size ≤ bb) (hm : mb < bb) (hbs : base ≤ w.heap.size) : Told3 w base nb mb tb vb K t v V := by
  obtain ⟨v', hn⟩ := h.nam
  have hne : ∀ {g : Nat} {cs2 : Array Value} {T : TypeId}, U.heap[g]? = some (.cells cs2 T (0, 0)) → T ≠ 119 → g ≠ bb := fun hc hT => by
    rintro rfl
    rw [hbb] at hc
    cases hc
    exact hT rfl
  refine ⟨⟨v', hn.bld hbb hb ho hm⟩, ⟨ho _ _ _ h.tv.t (hne h.tv.t (by decide)) (by decide), ho _ _ _ h.tv.v (hne h.tv.v (by decide)) (by decide)⟩, ?_, h.bel.trans (hb.mono (by omega))⟩
  intro g o hg h1 h2 h3 h4
  exact (hb.block g (by have := (Array.getElem?_eq_some_iff.1 hg).1; omega)).trans (h.nk g o hg h1 h2 h3 h4)
set_option maxRecDepth 100000 in
set_option maxHeartbeats 4000000 in
theorem put3_any {w0 w : World} {nb mb : Nat} {v : Value} {K : List ByteArray} (h : NamesIn w w0.heap.size nb mb v K) (h0 : Below w0.heap.size w0 w) (hK : K.length ≤ 400000) (A : Option Addr) (n c : Nat) (q : Nat → RAt) (hA : RecsIn w0 A n q) (hq : ∀ i, i < n → Wa.may (recF q i) = true ∧ Wa.Words (recF q i)) (hn : n ≤ 100000) :
    Calls Try.prog 100 #[.agg #[.pointer (some ⟨nb, 0, none⟩)], .slice A n c] w (PutEnd w w0.heap.size nb mb (Wa.put3 (recF q) K n)) := by
  have HA := Lib.hid hA; have HQ := Lib.hid hq; have H := Lib.hid h; have H0 := Lib.hid h0
  have HBS := Lib.hid h0.size
  have HNB : Hid (nb < w.heap.size ∧ mb < w.heap.size) := Lib.hid ⟨(Array.getElem?_eq_some_iff.1 h.cells).1, by obtain ⟨es, clock, hb, -⟩ := h.map; exact (Array.getElem?_eq_some_iff.1 hb).1⟩
  by_cases hn0 : n = 0
  · subst hn0
    rw [Wa.put3_zero]
    clear h hA hq h0
    go_enter Try.func100, Try.ntmps100
    go_wp2_with fail
    go_ret2
    have hba := (Below.refl w.heap.size w).alloc (Nat.le_refl _) (.cells #[.pointer (some ⟨nb, 0, none⟩)] 83)
    exact ⟨rfl, hba.mono HBS.out, fun _ => ⟨v, H.out.later hba⟩⟩
  have d0 : decide ((n : Int) = 0) = false := decide_eq_false (by omega)
  have d00 : decide (n = 0) = false := decide_eq_false hn0
  have HFS := Lib.hid (Wa.tells_succ (recF q) K); have HFZ := Lib.hid (Wa.tells_tv (recF q) K n hq)
  have HF0 : Hid (Wa.tells (recF q) K 0 = (ByteArray.empty, K, 0, 0)) := Lib.hid rfl
  have HOV := Lib.hid (fun k (hk : k ≤ n) h => Wa.put3_over (f := recF q) (K := K) hk hn0 h); have HIN := Lib.hid (fun h => Wa.put3_in (f := recF q) (K := K) (n := n) hn0 h)
  have hsz := Fr.small_le n
  have HSM := Lib.hid (fun W => Small_any n (Lib.hid (by omega)) W)
  have u1 : IntKind.u64.wrap (n : Int) = ((n : Nat) : Int) := by rw [IntKind.wrap_u64]; omega
  obtain ⟨PT, hPT⟩ : ∃ PT, PT = Wa.put3 (recF q) K n := ⟨_, rfl⟩
  rw [← hPT] at HOV HIN ⊢
  generalize Wa.tells (recF q) K = fx at *
  generalize Num.smallB n = kn at *
  have HKN := Lib.hid hsz
  clear h hA hq h0 hPT hsz
  go_enter Try.func100, Try.ntmps100
  go_wp2_with fail
  obtain ⟨wa, hwa⟩ : ∃ wa, wa = w.alloc (.cells #[.pointer (some ⟨nb, 0, none⟩)] 83) := ⟨_, rfl⟩
  have hba : Below w.heap.size w wa := by rw [hwa]; exact (Below.refl _ _).alloc (Nat.le_refl _) _
  have hxa : wa.heap[w.heap.size]? = some (.cells #[.pointer (some ⟨nb, 0, none⟩)] 83 (0, 0)) := by rw [hwa]; exact heap_alloc_new w _
  have hs1 : wa.heap.size = w.heap.size + 1 := by rw [hwa]; simp
  rw [← hwa]
  have hbn := BldAt.new wa
  have hbb : Below wa.heap.size wa (wa.alloc (.cells #[.pointer none, .slice none 0 0] 119)) := (Below.refl _ _).alloc (Nat.le_refl _) _
  obtain ⟨wb, hwb⟩ : ∃ wb, wb = wa.alloc (.cells #[.pointer none, .slice none 0 0] 119) := ⟨_, rfl⟩
  have hlo := hba.size
  rw [← hwb] at hbn hbb ⊢
  have HB1 := Lib.hid (below_step hba hbb)
  have hxb := heap_keep hxa hbb
  rw [hs1] at hbn hlo
  obtain ⟨bb, hbbe⟩ : ∃ bb, bb = w.heap.size + 1 := ⟨_, rfl⟩
  have HLO : Hid (w.heap.size < bb) := Lib.hid (by omega)
  rw [← hbbe] at hbn ⊢
  obtain ⟨sb, hsb⟩ : ∃ sb, sb = w.heap.size := ⟨_, rfl⟩
  rw [← hsb] at hxb ⊢
  have HLS : Hid (sb < bb) := Lib.hid (by omega)
  have HBL1 := Lib.hid hbn; have HX1 := Lib.hid hxb
  clear hwa hba hwb hbb hbn hlo hbbe hs1 hxa hxb hsb
  refine (HSM.out wb).mono ?_; rintro e w2 ⟨rfl, hb2⟩
  have HB2 := Lib.hid (below_step HB1.out hb2); have HBL2 := Lib.hid (HBL1.out.keep hb2); have HX2 := Lib.hid (heap_keep HX1.out hb2)
  have HWS := Lib.hid (bldString bb bb [] kn w2 HBL2.out (by have := HKN.out; show 0 + kn.size ≤ _; omega) (by have h1 := HBL2.out.lt; omega))
  clear hb2 HB1 HBL1 HX1 HSM
  go_wp2_with fail
  refine HWS.out.mono ?_; rintro e w3 ⟨rfl, hl3, hb3, -⟩
  have HB3 : Hid (Below w.heap.size w w3) := Lib.hid (HB2.out.trans (hb3.mono (by have := HLO.out; omega)))
  have HBL3 : Hid (BldAt w3 bb bb kn.data.toList) := Lib.hid (by rw [List.nil_append] at hl3; exact hl3)
  have HX3 := Lib.hid ((hb3.block sb HLS.out).trans HX2.out)
  clear hl3 hb3 HB2 HBL2 HX2 HWS
  have ht4 : Below w3.heap.size w3 ((w3.alloc (.cells #[.int .i64 0] 2)).alloc (.cells #[.int .u64 0] 50)) := ((Below.refl _ _).alloc (Nat.le_refl _) _).alloc (by simp) _
  have htv : TV ((w3.alloc (.cells #[.int .i64 0] 2)).alloc (.cells #[.int .u64 0] 50)) w3.heap.size (w3.heap.size + 1) 0 0 := ⟨heap_alloc2_old w3 _ _, heap_alloc2_new w3 _ _⟩
  obtain ⟨w4, hw4⟩ : ∃ w4, w4 = (w3.alloc (.cells #[.int .i64 0] 2)).alloc (.cells #[.int .u64 0] 50) := ⟨_, rfl⟩
  rw [← hw4] at ht4 htv
  obtain ⟨vb, hvb⟩ : ∃ vb, vb = w3.heap.size + 1 := ⟨_, rfl⟩
  obtain ⟨tb, htb⟩ : ∃ tb, tb = w3.heap.size := ⟨_, rfl⟩
  have HTB : Hid (w0.heap.size ≤ tb ∧ w0.heap.size ≤ vb) := Lib.hid (by have h1 := HB3.out.size; have h2 := HBS.out; omega)
  rw [← hvb, ← htb] at htv
  have HB4 := Lib.hid (below_step HB3.out ht4); have HBL4 := Lib.hid (HBL3.out.keep ht4); have HX4 := Lib.hid (heap_keep HX3.out ht4)
  have HT4 : Hid (Told3 w w0.heap.size nb mb tb vb K 0 0 w4) := Lib.hid ⟨⟨v, H.out.later HB4.out⟩, htv, NK3.below HB4.out, HB4.out.mono HBS.out⟩
  clear ht4 htv HB3 HBL3 HX3
  go_wp2_with fail
  rw [← hw4, ← hvb, ← htb]
  clear hw4 hvb htb
  go_loopw [10, 21] (fun _ i wr => ∃ (k : Nat), k ≤ n ∧ i = .int .i64 k ∧ Told3 w w0.heap.size nb mb tb vb (fx k).2.1 (fx k).2.2.1 (fx k).2.2.2 wr ∧ BldAt wr bb bb (kn ++ (fx k).1).data.toList ∧ wr.heap[sb]? = some (.cells #[.pointer (some ⟨nb, 0, none⟩)] 83 (0, 0)) ∧ (kn ++ (fx k).1).size ≤ 20000) (fun _ i _ => n - (intOf i).toNat)
  case atStart => exact ⟨0, by omega, rfl, by rw [HF0.out]; exact HT4.out, by rw [HF0.out, ByteArray.append_empty]; exact HBL4.out, HX4.out, by rw [HF0.out, ByteArray.append_empty]; have := HKN.out; omega⟩
  case round =>
    obtain ⟨k, hkn, rfl, hsd, hbl, hxs, hsmall⟩ := hrel
    have HSD := Lib.hid hsd; have HBL := Lib.hid hbl; have HXS := Lib.hid hxs; have HSMALL := Lib.hid hsmall
    have HBW : Hid (Below w0.heap.size w0 wr) := Lib.hid (H0.out.trans hsd.bel)
    clear hsd hbl hxs hsmall
    have i0 : (0 : Int) ≤ (k : Int) := Int.natCast_nonneg _
    by_cases hlt : k < n
    · have i1 : (k : Int) < (n : Int) := by omega
      have d1 : decide ((k : Int) < (n : Int)) = true := decide_eq_true i1
      obtain ⟨ad, rfl, x0, x1, x2, x3, x4⟩ := HA.out.cells HBW.out hlt
      obtain ⟨w8, hw8⟩ : ∃ w8, w8 = wr.alloc (.cells (recC (q k).r (q k).A (q k).c) 52) := ⟨_, rfl⟩
      have hb8 : Below wr.heap.size wr w8 := by rw [hw8]; exact (Below.refl _ _).alloc (Nat.le_refl _) _
      have hy8 : w8.heap[wr.heap.size]? = some (.cells (recC (q k).r (q k).A (q k).c) 52 (0, 0)) := by rw [hw8]; exact heap_alloc_new wr _
      have HSD8 := Lib.hid (HSD.out.later hb8 HBS.out)
      have HBL8 := Lib.hid (HBL.out.keep hb8)
      have hxs8 := heap_keep HXS.out hb8
      have HXS8 := Lib.hid hxs8
      have hfz := HFZ.out k hkn
      obtain ⟨v8, hn8⟩ := HSD8.out.nam
      have HTL := Lib.hid (tell3_any hn8 (by have h1 := hfz.1; omega) (q k).r (q k).A (q k).c ((HA.out.each k hlt).later (H0.out.trans HSD8.out.bel)) (HQ.out k hlt).1 hfz.2.1 hfz.2.2.1 HSD8.out.tv HTB.out)
      have hmc8 := hn8.mcells
      have hts := Wa.tell_size (two := false) (K := (fx k).2.1) (t := (fx k).2.2.1) (v := (fx k).2.2.2) (HQ.out k hlt).1
      have hfs : fx (k + 1) = ((fx k).1 ++ (Wa.tell false (fx k).2.1 (fx k).2.2.1 (fx k).2.2.2 (q k).r).1, (Wa.tell false (fx k).2.1 (fx k).2.2.1 (fx k).2.2.2 (q k).r).2, Wa.nextT (q k).r (fx k).2.2.1, Wa.nextV (q k).r (fx k).2.2.2) := HFS.out k
      unfold recC at hw8 hy8 HTL
      have y0 := cell_of_row _ _ 0 _ _ _ hy8; have y1 := cell_of_row _ _ 1 _ _ _ hy8; have y2 := cell_of_row _ _ 2 _ _ _ hy8; have y3 := cell_of_row _ _ 3 _ _ _ hy8; have y4 := cell_of_row _ _ 4 _ _ _ hy8
      have y5 := cell_of_row _ _ 0 _ _ _ hxs8
      simp only [List.getElem?_toArray, List.getElem?_cons_zero, List.getElem?_cons_succ] at y0 y1 y2 y3 y4 y5
      have hts2 : (Wa.tell false (fx k).2.1 (fx k).2.2.1 (fx k).2.2.2 (q k).r).1.size ≤ 3780 := hts
      obtain ⟨X, hX⟩ : ∃ X, X = Wa.tell false (fx k).2.1 (fx k).2.2.1 (fx k).2.2.2 (q k).r := ⟨_, rfl⟩
      rw [← hX] at hfs hts2 HTL
      have HS := Lib.hid hfs; have HZ := Lib.hid hts2
      clear hb8 hy8 hfs hfz hts hX hts2 hn8
      go_upto_region 10 with fail
      rw [← hw8]
      clear hw8 x0 x1 x2 x3 x4
      go_wp2_with fail
      refine HTL.out.mono ?_; rintro e w9 ⟨rfl, htd9⟩
      have HSD9 : Hid (Told3 w w0.heap.size nb mb tb vb X.2 (Wa.nextT (q k).r (fx k).2.2.1) (Wa.nextV (q k).r (fx k).2.2.2) w9) := Lib.hid ⟨htd9.nam, htd9.tv, HSD8.out.nk.trans htd9.nk, HSD8.out.bel.trans htd9.bel⟩
      have HBL9 := Lib.hid (HBL8.out.nk3 htd9.nk hmc8 HSD8.out.tv)
      have HXS9 := Lib.hid (htd9.nk sb _ HXS8.out (by rintro rfl; exact hmc8 _ _ _ HXS8.out) (by rintro rfl; have h1 := HSD8.out.tv.t; rw [HXS8.out] at h1; cases h1) (by rintro rfl; have h1 := HSD8.out.tv.v; rw [HXS8.out] at h1; cases h1) (fun cs T fr e => by cases e; exact ⟨by decide, by decide⟩))
      clear htd9 y0 y1 y2 y3 y4 y5 hxs8
      have hll : (kn ++ (fx k).1).data.toList.length + X.1.size ≤ 1099511627776 := by
        have h1 : (kn ++ (fx k).1).data.toList.length = (kn ++ (fx k).1).size := by simp
        have h2 := HSMALL.out; have h3 := HZ.out; omega
      have HWS := Lib.hid (bldString bb bb (kn ++ (fx k).1).data.toList X.1 w9 HBL9.out hll (by have h1 := HBL9.out.lt; omega))
      clear hll
      go_wp2_with fail
      refine HWS.out.mono ?_; rintro e w11 ⟨rfl, hl11, hb11, ho11⟩
      have HSD11 : Hid (Told3 w w0.heap.size nb mb tb vb (fx (k + 1)).2.1 (fx (k + 1)).2.2.1 (fx (k + 1)).2.2.2 w11) := Lib.hid (by
        rw [HS.out]
        obtain ⟨cs, hcs⟩ := HBL9.out.blk
        have hlo := HLO.out; have hnb := HNB.out
        exact HSD9.out.bld hcs hb11 ho11 (by omega) (by omega) HBS.out)
      have HBL11 : Hid (BldAt w11 bb bb (kn ++ (fx (k + 1)).1).data.toList) := Lib.hid (by
        rw [HS.out]
        have e : (kn ++ ((fx k).1 ++ X.1)).data.toList = (kn ++ (fx k).1).data.toList ++ X.1.data.toList := by simp
        show BldAt w11 bb bb (kn ++ ((fx k).1 ++ X.1)).data.toList
        rw [e]; exact hl11)
      have HXS11 := Lib.hid ((hb11.block sb HLS.out).trans HXS9.out)
      clear hl11 hb11 ho11
      have HLN := Lib.hid (bldLen bb bb _ w11 HBL11.out)
      go_wp2_with fail
      refine HLN.out.mono ?_; rintro e w12 ⟨rfl, rfl⟩
      have hll : (kn ++ (fx (k + 1)).1).data.toList.length = (kn ++ (fx (k + 1)).1).size := by simp
      rw [hll]
      clear hll
      obtain ⟨z, hz⟩ : ∃ z, z = (kn ++ (fx (k + 1)).1).size := ⟨_, rfl⟩
      rw [← hz]
      have HZ9 := Lib.hid hz
      clear hz
      by_cases hbig : 20000 < z
      · have d3 : decide (20000 < (z : Int)) = true := decide_eq_true (by omega)
        have d4 : decide (20000 < z) = true := decide_eq_true hbig
        have HPE := Lib.hid (HOV.out (k + 1) (by omega) (by rw [← HZ9.out]; exact hbig))
        clear hbig
        go_wp2_with fail
        go_ret2
        rw [HPE.out]
        exact ⟨rfl, HSD11.out.bel, fun h => by cases h⟩
      · have d3 : decide (20000 < (z : Int)) = false := decide_eq_false (by omega)
        have d4 : decide (20000 < z) = false := decide_eq_false hbig
        have HZ10 : Hid ((kn ++ (fx (k + 1)).1).size ≤ 20000) := Lib.hid (by rw [← HZ9.out]; omega)
        clear hbig
        go_wp2_with fail
        go_roundw
        case rel => exact ⟨k + 1, by omega, by go_num, HSD11.out, HBL11.out, HXS11.out, HZ10.out⟩
        case measure => simp [intOf]; omega
    · obtain rfl : k = n := by omega
      have d1 : decide ((k : Int) < (k : Int)) = false := decide_eq_false (by omega)
      have HST := Lib.hid (bldTextK bb bb _ wr HBL.out (by have := HBL.out.lt; omega))
      have HPE := Lib.hid (HIN.out HSMALL.out)
      go_wp2_with fail
      refine HST.out.mono ?_; rintro e w5 ⟨rfl, hb5, ho5⟩
      have e1 := ba_back (kn ++ (fx k).1)
      rw [e1]
      have HSD5 := Lib.hid (by
        obtain ⟨cs, hcs⟩ := HBL.out.blk
        have hlo := HLO.out; have hnb := HNB.out
        exact HSD.out.bld hcs hb5 ho5 (by omega) (by omega) HBS.out)
      have HPT := Lib.hid (fun W => Put_any (kn ++ (fx k).1) (by have := HSMALL.out; omega) W)
      clear hb5 ho5
      go_wp2_with fail
      refine (HPT.out w5).mono ?_; rintro e w6 ⟨rfl, hb6⟩
      have HSD6 := Lib.hid (HSD5.out.later hb6 HBS.out)
      clear hb6
      go_wp2_with fail
      go_ret2
      rw [HPE.out]
      exact ⟨rfl, HSD6.out.bel, fun _ => HSD6.out.nam⟩
end Go.Proofs.Ytaillfnmaiiapaa
