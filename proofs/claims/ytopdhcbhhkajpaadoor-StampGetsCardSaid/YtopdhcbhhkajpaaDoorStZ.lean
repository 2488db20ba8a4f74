/-
  The walk of StampGets.
-/
import Derived.Test.YtopdhcbhhkajpaaDoorStY
import Derived.Deep.DeepCutAuto
namespace Go.Proofs.YtopdhcbhhkajpaaDoor
open Go.RowKit
namespace St

def gotS (s : S) (L : List Bool) : S := match s.got L with | some t => s.next t | none => s
def gotR (s : S) (L : List Bool) : List Bool := match s.got L with | some t => L.drop (s.cost t) | none => L
def gotN (s : S) (L : List Bool) : Nat := match s.got L with | some t => s.cost t | none => 0
def gotO (s : S) (L : List Bool) : Bool := (s.got L).isSome
theorem gotR_eq (s : S) (L : List Bool) : gotR s L = L.drop (gotN s L) := by unfold gotR gotN; cases s.got L <;> simp
theorem gotN_le (s : S) (L : List Bool) : gotN s L ≤ L.length := by
  unfold gotN
  cases h : s.got L with
  | none => simp
  | some t => exact (S.got_some h).2.1
theorem gotS_none {s : S} {L : List Bool} (h : gotO s L = false) : gotS s L = s := by
  unfold gotO at h; unfold gotS
  cases hg : s.got L with
  | none => rfl
  | some t => rw [hg] at h; simp at h
end St
theorem rGet_det (L : List Bool) (hL : L.length ≤ 4000) (s : St.S) (w : World) :
    Calls Tryd.prog 22 #[.string (Bit.str L), s.val] w fun e w' => e = .returned (.tuple #[(St.gotS s L).val, .string (Bit.str (St.gotR s L)), .bool (St.gotO s L)]) ∧ Below w.heap.size w w' := by
  refine (rGet_any L hL s w).mono ?_
  rintro e w2 ⟨hb, ⟨t, hg, rfl⟩ | ⟨hg, rfl⟩⟩
  · unfold St.gotS St.gotR St.gotO; rw [hg]; exact ⟨rfl, hb⟩
  · unfold St.gotS St.gotR St.gotO; rw [hg]; exact ⟨rfl, hb⟩
theorem stGet_det (p : Nat) (b : ByteArray) (hb : b.size ≤ 137438953472) (q : Nat) (hq : q ≤ 8 * b.size) (s : St.S) (w : World) (hT : ClsOk w) (hr : RdAt w p b q) :
    Calls Tryd.prog 21 #[.pointer (some ⟨p, 0, none⟩), s.val] w fun e w' => e = .returned (.tuple #[(St.gotS s ((Bit.bits b).drop q)).val, .bool (St.gotO s ((Bit.bits b).drop q))]) ∧ Far w w' (OneSet p) ∧ RdAt w' p b (q + St.gotN s ((Bit.bits b).drop q)) := by
  refine (stGet_any p b hb q hq s w hT hr).mono ?_
  rintro e w2 ⟨hf, ⟨t, hg, rfl, hr⟩ | ⟨hg, rfl, hr⟩⟩
  · unfold St.gotS St.gotO St.gotN; rw [hg]; exact ⟨rfl, hf, hr⟩
  · unfold St.gotS St.gotO St.gotN; rw [hg]; exact ⟨rfl, hf, hr⟩
theorem below_of_drew {W W2 : World} (h : DrewOf W W2) : Below W.heap.size W W2 := (Below.refl _ _).grown (h.grown none) (Nat.le_refl _) (fun r e => by cases e)
structure GetHeld (w : World) (p : Nat) (b : ByteArray) (q gx : Nat) (s x : St.S) (W : World) : Prop where
  rd : RdAt W p b q
  st : StateAt W w.heap.size s
  nx : StateAt W gx x
  bel : Below w.heap.size w W
theorem GetHeld.later {w W W2 : World} {p q gx : Nat} {b : ByteArray} {s x : St.S} (h : GetHeld w p b q gx s x W) (hb : Below W.heap.size W W2) : GetHeld w p b q gx s x W2 :=
  ⟨h.rd.below hb, h.st.later hb, h.nx.later hb, h.bel.trans (hb.mono h.bel.size)⟩
theorem GetHeld.drew {w W : World} {p q gx : Nat} {b : ByteArray} {s x : St.S} (h : GetHeld w p b q gx s x W) : GetHeld w p b q gx s x W.drew :=
  ⟨h.rd, h.st, h.nx, below_drew h.bel h.bel.size⟩
theorem GetHeld.three {w W : World} {p q gx gy : Nat} {b : ByteArray} {s x : St.S} {u v y : Value} (h : GetHeld w p b q gx s x W) (h1 : gy ≠ p) (h2 : gy ≠ w.heap.size) (h3 : gy ≠ gx) (h4 : w.heap.size ≤ gy) : GetHeld w p b q gx s x (((W.setCell ⟨gy, 0, none⟩ u).setCell ⟨gy, 1, none⟩ v).setCell ⟨gy, 2, none⟩ y) := by
  have hg := grown_three W gy 0 1 2 u v y
  exact ⟨h.rd.three (fun e => h1 e.symm), (hg.block _ h.st.lt (by simp; omega)).trans h.st, (hg.block _ h.nx.lt (by simp; omega)).trans h.nx, h.bel.grown hg h.bel.size (fun r e => by cases e; exact h4)⟩
set_option maxRecDepth 100000 in
set_option maxHeartbeats 4000000 in
theorem stampGets_walk0 (w : World) (hT : ClsOk w) (b : ByteArray) (_hb : b.size ≤ maxLen) (k : Nat) (hk : k < 256) (s : St.S) :
    Calls Tryd.prog 4 #[.string b, .int .u8 k, s.val] w fun e w' => e = .returned (.bool true) ∧ Below w.heap.size w w' := by
  have HT := Lib.hid hT; clear hT
  have hval : s.val = .agg #[.int .i64 s.n, .int .i64 s.t, .int .i64 s.d] := rfl
  obtain ⟨n, hn⟩ : ∃ n : Nat, k % 8 = n := ⟨_, rfl⟩
  have hn8 : n < 8 := by omega
  have t1 : (k : Int).tmod 8 = (n : Int) := by rw [Int.tmod_eq_emod_of_nonneg (by omega)]; omega
  have t2 : IntKind.i64.wrap (k : Int) = (k : Int) := IntWalk.i64_in _ (by omega)
  have t3 : (k : Int) % 8 = (n : Int) := by omega
  have HN := Lib.hid hn; clear hn
  rw [hval]
  have HS0 : Hid (StateAt (w.alloc (.cells #[.int .i64 s.n, .int .i64 s.t, .int .i64 s.d] 23)) w.heap.size s) := Lib.hid (RowIs.one _ _)
  have HB0 : Hid (Below w.heap.size w (w.alloc (.cells #[.int .i64 s.n, .int .i64 s.t, .int .i64 s.d] 23))) := Lib.hid ((Below.refl _ _).alloc (Nat.le_refl _) _)
  go_enter Tryd.func4, Tryd.ntmps4
  go_wp2_with fail
  have hz0 : w.heap.size < (w.alloc (.cells #[.int .i64 s.n, .int .i64 s.t, .int .i64 s.d] 23)).heap.size := by simp
  generalize w.alloc (.cells #[.int .i64 s.n, .int .i64 s.t, .int .i64 s.d] 23) = w0 at *
  have hworks := works_any w0 (HT.out.later HB0.out)
  refine hworks.mono ?_; clear hworks; rintro e w1 ⟨rfl, hb1⟩
  have HS1 := Lib.hid (HS0.out.later hb1); have HB1 := Lib.hid (HB0.out.trans (hb1.mono (Nat.le_of_lt hz0)))
  have hz1 : w.heap.size < w1.heap.size := Nat.lt_of_lt_of_le hz0 hb1.size
  clear hb1
  go_wp2_with fail
  refine (NewReader_any b _).mono ?_; rintro e w2 ⟨rfl, hw2⟩
  have hrd : RdAt w2 w1.heap.size b 0 := by rw [hw2]; exact RowIs.one w1 _
  have hal : Below w1.heap.size w1 w2 := by rw [hw2]; exact (Below.refl _ _).alloc (Nat.le_refl _) _
  have HS2 := Lib.hid (HS1.out.later hal); have HB2 := Lib.hid (HB1.out.trans (hal.mono (Nat.le_of_lt hz1))); have HRd := Lib.hid hrd
  generalize w1.heap.size = p at *
  clear hrd hal hw2
  obtain ⟨s0, s1, s2⟩ := HS2.out.cells
  by_cases hb60 : b.size ≤ 60
  · have d0 : decide ((60 : Int) < (b.size : Int)) = false := by simp; omega
    by_cases hb0 : b.size = 0
    · have d1 : ((b.size : Int) == 0) = true := by simp [hb0]
      clear hb0
      go_wp2_with fail
      go_ret
      exact ⟨rfl, HB2.out⟩
    · have d1 : ((b.size : Int) == 0) = false := by simp [hb0]
      by_cases hbig : s.n ≤ 1099511627776
      · have d2 : decide (1099511627776 < s.n) = false := by simp; omega
        have HT2 : Hid (ClsOk w2) := Lib.hid (HT.out.later HB2.out)
        have hwdn : Bit.wd ((n : Nat) : Int) = n := by unfold Bit.wd; omega
        go_wp2_with fail
        refine (Get_yes p b (by omega) 0 (n : Int) w2 HRd.out (by rw [hwdn]; omega)).mono ?_; rintro e w3 ⟨rfl, hr3, hf3⟩
        rw [hwdn, Nat.zero_add] at hr3
        have hp1 := HT2.out.not_reader HRd.out
        have HR3 := Lib.hid hr3
        have HT3 : Hid (ClsOk w3) := Lib.hid (HT2.out.far hf3 hp1)
        have HS3 := Lib.hid (HS2.out.far hf3 (by omega))
        have HB3 := Lib.hid (HB2.out.trans (hf3.below HB2.out.size (fun k hk => by have : k = p := hk; omega)))
        clear hr3 hf3 s0 s1 s2
        obtain ⟨s0, s1, s2⟩ := HS3.out.cells
        have hgl : (Bit.bits b).length = 8 * b.size := Bit.bits_length b
        have hgn := St.gotN_le s ((Bit.bits b).drop n)
        rw [List.length_drop, hgl] at hgn
        have hgr := St.gotR_eq s ((Bit.bits b).drop n)
        have hgs := St.gotS_none (s := s) (L := (Bit.bits b).drop n)
        have hget := stGet_det p b (by omega) n (by omega) s w3 HT3.out HR3.out
        have hrget := fun W => rGet_det ((Bit.bits b).drop n) (by rw [List.length_drop]; omega) s W
        rw [hval] at hget hrget
        generalize St.gotN s ((Bit.bits b).drop n) = adv at *
        generalize St.gotR s ((Bit.bits b).drop n) = R at *
        generalize St.gotO s ((Bit.bits b).drop n) = o at *
        generalize hx : St.gotS s ((Bit.bits b).drop n) = x at *
        have hxv : x.val = .agg #[.int .i64 x.n, .int .i64 x.t, .int .i64 x.d] := rfl
        rw [hxv] at hget hrget
        have HG := Lib.hid hget; have HRG := Lib.hid hrget; have HGR := Lib.hid hgr; have HGS := Lib.hid hgs
        clear hget hrget hgr hgs hx
        go_wp2_with fail
        refine HG.out.mono ?_; rintro e w4 ⟨rfl, hf4, hr4⟩
        have HR4 := Lib.hid hr4
        have HS4 := Lib.hid (HS3.out.far hf4 (by omega))
        have HB4 := Lib.hid (HB3.out.trans (hf4.below HB3.out.size (fun k hk => by have : k = p := hk; omega)))
        clear hr4 hf4 HG s0 s1 s2
        go_upto_region 10 with fail
        have hal : Below w4.heap.size w4 (w4.alloc (.cells #[.int .i64 x.n, .int .i64 x.t, .int .i64 x.d] 23)) := (Below.refl _ _).alloc (Nat.le_refl _) _
        have HX5 : Hid (StateAt (w4.alloc (.cells #[.int .i64 x.n, .int .i64 x.t, .int .i64 x.d] 23)) w4.heap.size x) := Lib.hid (RowIs.one _ _)
        have HR5 := Lib.hid (HR4.out.below hal); have HS5 := Lib.hid (HS4.out.later hal); have HB5 := Lib.hid (HB4.out.trans (hal.mono HB4.out.size))
        have hz4 : w4.heap.size < (w4.alloc (.cells #[.int .i64 x.n, .int .i64 x.t, .int .i64 x.d] 23)).heap.size := by simp
        clear hal
        generalize w4.alloc (.cells #[.int .i64 x.n, .int .i64 x.t, .int .i64 x.d] 23) = w5 at *
        have hpx : p < w4.heap.size := HR4.out.lt
        generalize w4.heap.size = gx at *
        have HH := Lib.hid (⟨HR5.out, HS5.out, HX5.out, HB5.out⟩ : GetHeld w p b (n + adv) gx s x w5)
        clear HR5 HS5 HX5 HB5
        obtain ⟨s0, s1, s2⟩ := HH.out.st.cells
        have hsl : (Bit.str (Bit.bits b)).size = 8 * b.size := by rw [Bit.str_size, hgl]
        have hxx : (Bit.str (Bit.bits b)).extract n (8 * b.size) = Bit.str ((Bit.bits b).drop n) := by rw [Bit.str_extract, List.take_of_length_le (by rw [List.length_drop, hgl]; omega)]
        have hni : ¬ (8 * (b.size : Int) < (n : Int)) := by omega
        go_cut [12, 13, 14] (fun s12 s13 s14 wx => ∃ gy : Nat, s12 = .pointer (some ⟨gy, 0, none⟩) ∧ s13 = .string (Bit.str R) ∧ s14 = .bool o ∧ RStateAt wx gy x ∧ GetHeld w p b (n + adv) gx s x wx)
        case first =>
          have hS : w5.drew.cell? ⟨w.heap.size, 0, none⟩ = some (.int .i64 s.n) ∧ w5.drew.cell? ⟨w.heap.size, 1, none⟩ = some (.int .i64 s.t) ∧ w5.drew.cell? ⟨w.heap.size, 2, none⟩ = some (.int .i64 s.d) := ⟨s0, s1, s2⟩
          refine plain_held (fun U => U.cell? ⟨w.heap.size, 0, none⟩ = some (.int .i64 s.n) ∧ U.cell? ⟨w.heap.size, 1, none⟩ = some (.int .i64 s.t) ∧ U.cell? ⟨w.heap.size, 2, none⟩ = some (.int .i64 s.d)) (by kernel_rfl) ?_
          have HHd := Lib.hid HH.out.drew
          generalize w5.drew = wd at *
          refine wpAnyH_pickQ (by kernel_rfl) Only.panic Only.keepsIn (w := wd) hS [0, 1, 2, 3, 4] 10 _ _ (by kernel_rfl) ?_
          refine PickQ.value (d := some 55) (.string b) rfl rfl (by kernel_rfl) (fun U hU => (by go_simp)) ?_
          refine PickQ.call (d := some 56) (.string (Bit.str (Bit.bits b))) 23 #[.string b] rfl rfl (by kernel_rfl) (fun U hU => (by go_simp)) (fun U hU => rOf_any b hb60 U) ?_
          refine PickQ.value (d := some 57) (.int .i64 n) rfl rfl (by kernel_rfl) (fun U hU => (by go_simp)) ?_
          refine PickQ.value (d := some 58) (.string (Bit.str ((Bit.bits b).drop n))) rfl rfl (by kernel_rfl) (fun U hU => (by go_simp)) ?_
          refine PickQ.value (d := some 59) (.agg #[.int .i64 s.n, .int .i64 s.t, .int .i64 s.d]) rfl rfl (by kernel_rfl) (fun U hU => (by obtain ⟨h0, h1, h2⟩ := hU; go_simp)) ?_
          simp only [PickQ, Act.put, List.setIfInBounds_toArray]
          have hkeep : ∀ W W2 : World, (W.cell? ⟨w.heap.size, 0, none⟩ = some (.int .i64 s.n) ∧ W.cell? ⟨w.heap.size, 1, none⟩ = some (.int .i64 s.t) ∧ W.cell? ⟨w.heap.size, 2, none⟩ = some (.int .i64 s.d)) → Below W.heap.size W W2 → (W2.cell? ⟨w.heap.size, 0, none⟩ = some (.int .i64 s.n) ∧ W2.cell? ⟨w.heap.size, 1, none⟩ = some (.int .i64 s.t) ∧ W2.cell? ⟨w.heap.size, 2, none⟩ = some (.int .i64 s.d)) := fun W W2 h hb => ⟨cell_keep h.1 hb, cell_keep h.2.1 hb, cell_keep h.2.2 hb⟩
          have hal0 : ∀ (W : World) (o : Obj), Below W.heap.size W (W.alloc o) := fun W o => (Below.refl _ _).alloc (Nat.le_refl _) _
          have HKEEP := Lib.hid hkeep; have HAL := Lib.hid hal0; clear hkeep hal0
          have hof := fun W => of_any s W
          rw [hval] at hof
          have HOF := Lib.hid hof; clear hof
          clear s0 s1 s2
          refine wpAnyH_two (i := 5) (j := 11) (by kernel_rfl) rfl rfl (by kernel_rfl) (by kernel_rfl) ?_ ?_
          · intro K hK
            unfold Oper.wp
            go_simp
            refine (HOF.out _).mono ?_; rintro e w6 ⟨rfl, hb6⟩
            refine hK _ _ (HKEEP.out _ _ hS hb6) (fun hS6 => ?_)
            clear hK K
            have HH6 := Lib.hid (HHd.out.later hb6)
            clear hb6
            refine wpAnyH_two (i := 6) (j := 11) (by kernel_rfl) rfl rfl (by kernel_rfl) (by kernel_rfl) ?_ ?_
            · intro K hK
              unfold Oper.wp
              go_simp
              refine (HRG.out _).mono ?_; rintro e w7 ⟨rfl, hb7⟩
              refine hK _ _ (HKEEP.out _ _ hS6 hb7) (fun hS7 => ?_)
              clear hK K
              have HH7 := Lib.hid (HH6.out.later hb7)
              clear hb7
              refine wpAnyH_pick (by kernel_rfl) Only.panic (w := w7) hS7 [7, 8, 9, 10] 4 _ _ (by kernel_rfl) ?_
              refine PickOk.value (v := .tuple #[.agg #[.int .i64 x.n, .int .i64 x.t, .int .i64 x.d], .string (Bit.str R), .bool o]) rfl rfl (by kernel_rfl) (fun U hU => (by go_simp)) ?_
              refine PickOk.value (v := .agg #[.int .i64 x.n, .int .i64 x.t, .int .i64 x.d]) rfl rfl (by kernel_rfl) (fun U hU => (by go_simp)) ?_
              refine PickOk.value (v := .string (Bit.str R)) rfl rfl (by kernel_rfl) (fun U hU => (by go_simp)) ?_
              refine PickOk.value (v := .bool o) rfl rfl (by kernel_rfl) (fun U hU => (by go_simp)) ?_
              simp only [PickOk, Act.put, List.setIfInBounds_toArray]
              refine wpAnyH_one (i := 11) (by kernel_rfl) rfl (by kernel_rfl) ?_
              intro K hK
              unfold Oper.wp
              go_simp
              refine hK _ _ (HKEEP.out _ _ hS7 (HAL.out _ _)) (fun hS8 => ?_)
              clear hK K
              have HQ8 : Hid (RStateAt (w7.alloc (.cells #[.int .i64 0, .int .i64 0, .int .i64 0] 28)) w7.heap.size ⟨0, 0, 0⟩) := Lib.hid (RowIs.one _ _)
              have HH8 := Lib.hid (HH7.out.later (HAL.out w7 (.cells #[.int .i64 0, .int .i64 0, .int .i64 0] 28)))
              have hg7 : gx < w7.heap.size := HH7.out.nx.lt
              have hw7 : w.heap.size ≤ w7.heap.size := HH7.out.bel.size
              have hs7 : w.heap.size < w7.heap.size := HH7.out.st.lt
              have hp7 : p < w7.heap.size := HH7.out.rd.lt
              generalize w7.alloc (.cells #[.int .i64 0, .int .i64 0, .int .i64 0] 28) = w8 at *
              generalize w7.heap.size = gy at *
              refine wpAnyH_one (i := 12) (by kernel_rfl) rfl (by kernel_rfl) ?_
              intro K hK
              have y0 := (HQ8.out).cells.1
              have y1 := (HQ8.out).cells.2.1
              have y2 := (HQ8.out).cells.2.2
              have f0 := (HQ8.out).free.1
              have f1 := (HQ8.out).free.2.1
              have f2 := (HQ8.out).free.2.2
              have hend := (HH8.out).three (u := .int .i64 x.n) (v := .int .i64 x.t) (y := .int .i64 x.d) (gy := gy) (by omega) (by omega) (by omega) (by omega)
              have hyend : RStateAt _ gy x := (HQ8.out).set x.n x.t x.d
              have HEND := Lib.hid hend; have HYEND := Lib.hid hyend; clear hend hyend
              unfold Oper.wp
              go_simp
              refine hK _ _ HEND.out.st.cells (fun _ => ?_)
              clear hK K
              refine wpAnyH_pick (by kernel_rfl) Only.panic HEND.out.st.cells [13, 14] 0 _ _ (by kernel_rfl) ?_
              refine PickOk.value (v := .string (Bit.str R)) rfl rfl (by kernel_rfl) (fun U hU => (by go_simp)) ?_
              refine PickOk.value (v := .bool o) rfl rfl (by kernel_rfl) (fun U hU => (by go_simp)) ?_
              simp only [PickOk, Act.put, List.setIfInBounds_toArray]
              refine wpAnyH_done (by kernel_rfl) ?_ _
              refine Only.next ?_
              go_wp2_with fail
              go_meet
              exact ⟨gy, rfl, rfl, rfl, HYEND.out, HEND.out⟩
            · intro K hK
              unfold Oper.wp
              go_simp
              refine hK _ _ (HKEEP.out _ _ hS6 (HAL.out _ _)) (fun hS7 => ?_)
              clear hK K
              have HQ7 : Hid (RStateAt (w6.alloc (.cells #[.int .i64 0, .int .i64 0, .int .i64 0] 28)) w6.heap.size ⟨0, 0, 0⟩) := Lib.hid (RowIs.one _ _)
              have HH7 := Lib.hid (HH6.out.later (HAL.out w6 (.cells #[.int .i64 0, .int .i64 0, .int .i64 0] 28)))
              have hg7 : gx < w6.heap.size := HH6.out.nx.lt
              have hw7 : w.heap.size ≤ w6.heap.size := HH6.out.bel.size
              have hs7 : w.heap.size < w6.heap.size := HH6.out.st.lt
              have hp7 : p < w6.heap.size := HH6.out.rd.lt
              generalize w6.alloc (.cells #[.int .i64 0, .int .i64 0, .int .i64 0] 28) = w7 at *
              generalize w6.heap.size = gy at *
              refine wpAnyH_one (i := 6) (by kernel_rfl) rfl (by kernel_rfl) ?_
              intro K hK
              unfold Oper.wp
              go_simp
              refine (HRG.out _).mono ?_; rintro e w8 ⟨rfl, hb8⟩
              refine hK _ _ (HKEEP.out _ _ hS7 hb8) (fun hS8 => ?_)
              clear hK K
              have HH8 := Lib.hid (HH7.out.later hb8)
              have HQ8 := Lib.hid (HQ7.out.later hb8)
              clear hb8
              refine wpAnyH_pick (by kernel_rfl) Only.panic (w := w8) hS8 [7, 8, 9, 10] 3 _ _ (by kernel_rfl) ?_
              refine PickOk.value (v := .tuple #[.agg #[.int .i64 x.n, .int .i64 x.t, .int .i64 x.d], .string (Bit.str R), .bool o]) rfl rfl (by kernel_rfl) (fun U hU => (by go_simp)) ?_
              refine PickOk.value (v := .agg #[.int .i64 x.n, .int .i64 x.t, .int .i64 x.d]) rfl rfl (by kernel_rfl) (fun U hU => (by go_simp)) ?_
              refine PickOk.value (v := .string (Bit.str R)) rfl rfl (by kernel_rfl) (fun U hU => (by go_simp)) ?_
              refine PickOk.value (v := .bool o) rfl rfl (by kernel_rfl) (fun U hU => (by go_simp)) ?_
              simp only [PickOk, Act.put, List.setIfInBounds_toArray]
              refine wpAnyH_one (i := 12) (by kernel_rfl) rfl (by kernel_rfl) ?_
              intro K hK
              have y0 := (HQ8.out).cells.1
              have y1 := (HQ8.out).cells.2.1
              have y2 := (HQ8.out).cells.2.2
              have f0 := (HQ8.out).free.1
              have f1 := (HQ8.out).free.2.1
              have f2 := (HQ8.out).free.2.2
              have hend := (HH8.out).three (u := .int .i64 x.n) (v := .int .i64 x.t) (y := .int .i64 x.d) (gy := gy) (by omega) (by omega) (by omega) (by omega)
              have hyend : RStateAt _ gy x := (HQ8.out).set x.n x.t x.d
              have HEND := Lib.hid hend; have HYEND := Lib.hid hyend; clear hend hyend
              unfold Oper.wp
              go_simp
              refine hK _ _ HEND.out.st.cells (fun _ => ?_)
              clear hK K
              refine wpAnyH_pick (by kernel_rfl) Only.panic HEND.out.st.cells [13, 14] 0 _ _ (by kernel_rfl) ?_
              refine PickOk.value (v := .string (Bit.str R)) rfl rfl (by kernel_rfl) (fun U hU => (by go_simp)) ?_
              refine PickOk.value (v := .bool o) rfl rfl (by kernel_rfl) (fun U hU => (by go_simp)) ?_
              simp only [PickOk, Act.put, List.setIfInBounds_toArray]
              refine wpAnyH_done (by kernel_rfl) ?_ _
              refine Only.next ?_
              go_wp2_with fail
              go_meet
              exact ⟨gy, rfl, rfl, rfl, HYEND.out, HEND.out⟩
          · intro K hK
            unfold Oper.wp
            go_simp
            refine hK _ _ (HKEEP.out _ _ hS (HAL.out _ _)) (fun hS6 => ?_)
            clear hK K
            have HQ6 : Hid (RStateAt (wd.alloc (.cells #[.int .i64 0, .int .i64 0, .int .i64 0] 28)) wd.heap.size ⟨0, 0, 0⟩) := Lib.hid (RowIs.one _ _)
            have HH6 := Lib.hid (HHd.out.later (HAL.out wd (.cells #[.int .i64 0, .int .i64 0, .int .i64 0] 28)))
            have hg7 : gx < wd.heap.size := HHd.out.nx.lt
            have hw7 : w.heap.size ≤ wd.heap.size := HHd.out.bel.size
            have hs7 : w.heap.size < wd.heap.size := HHd.out.st.lt
            have hp7 : p < wd.heap.size := HHd.out.rd.lt
            generalize wd.alloc (.cells #[.int .i64 0, .int .i64 0, .int .i64 0] 28) = w6 at *
            generalize wd.heap.size = gy at *
            refine wpAnyH_one (i := 5) (by kernel_rfl) rfl (by kernel_rfl) ?_
            intro K hK
            unfold Oper.wp
            go_simp
            refine (HOF.out _).mono ?_; rintro e w7 ⟨rfl, hb7⟩
            refine hK _ _ (HKEEP.out _ _ hS6 hb7) (fun hS7 => ?_)
            clear hK K
            have HH7 := Lib.hid (HH6.out.later hb7)
            have HQ7 := Lib.hid (HQ6.out.later hb7)
            clear hb7
            refine wpAnyH_one (i := 6) (by kernel_rfl) rfl (by kernel_rfl) ?_
            intro K hK
            unfold Oper.wp
            go_simp
            refine (HRG.out _).mono ?_; rintro e w8 ⟨rfl, hb8⟩
            refine hK _ _ (HKEEP.out _ _ hS7 hb8) (fun hS8 => ?_)
            clear hK K
            have HH8 := Lib.hid (HH7.out.later hb8)
            have HQ8 := Lib.hid (HQ7.out.later hb8)
            clear hb8
            refine wpAnyH_pick (by kernel_rfl) Only.panic (w := w8) hS8 [7, 8, 9, 10] 3 _ _ (by kernel_rfl) ?_
            refine PickOk.value (v := .tuple #[.agg #[.int .i64 x.n, .int .i64 x.t, .int .i64 x.d], .string (Bit.str R), .bool o]) rfl rfl (by kernel_rfl) (fun U hU => (by go_simp)) ?_
            refine PickOk.value (v := .agg #[.int .i64 x.n, .int .i64 x.t, .int .i64 x.d]) rfl rfl (by kernel_rfl) (fun U hU => (by go_simp)) ?_
            refine PickOk.value (v := .string (Bit.str R)) rfl rfl (by kernel_rfl) (fun U hU => (by go_simp)) ?_
            refine PickOk.value (v := .bool o) rfl rfl (by kernel_rfl) (fun U hU => (by go_simp)) ?_
            simp only [PickOk, Act.put, List.setIfInBounds_toArray]
            refine wpAnyH_one (i := 12) (by kernel_rfl) rfl (by kernel_rfl) ?_
            intro K hK
            have y0 := (HQ8.out).cells.1
            have y1 := (HQ8.out).cells.2.1
            have y2 := (HQ8.out).cells.2.2
            have f0 := (HQ8.out).free.1
            have f1 := (HQ8.out).free.2.1
            have f2 := (HQ8.out).free.2.2
            have hend := (HH8.out).three (u := .int .i64 x.n) (v := .int .i64 x.t) (y := .int .i64 x.d) (gy := gy) (by omega) (by omega) (by omega) (by omega)
            have hyend : RStateAt _ gy x := (HQ8.out).set x.n x.t x.d
            have HEND := Lib.hid hend; have HYEND := Lib.hid hyend; clear hend hyend
            unfold Oper.wp
            go_simp
            refine hK _ _ HEND.out.st.cells (fun _ => ?_)
            clear hK K
            refine wpAnyH_pick (by kernel_rfl) Only.panic HEND.out.st.cells [13, 14] 0 _ _ (by kernel_rfl) ?_
            refine PickOk.value (v := .string (Bit.str R)) rfl rfl (by kernel_rfl) (fun U hU => (by go_simp)) ?_
            refine PickOk.value (v := .bool o) rfl rfl (by kernel_rfl) (fun U hU => (by go_simp)) ?_
            simp only [PickOk, Act.put, List.setIfInBounds_toArray]
            refine wpAnyH_done (by kernel_rfl) ?_ _
            refine Only.next ?_
            go_wp2_with fail
            go_meet
            exact ⟨gy, rfl, rfl, rfl, HYEND.out, HEND.out⟩
        case rest =>
          obtain ⟨gy, rfl, rfl, rfl, hy, hh⟩ := hcut
          have HYr := Lib.hid hy; have HHr := Lib.hid hh
          obtain ⟨y0, y1, y2⟩ := hy.cells
          obtain ⟨s0, s1, s2⟩ := hh.st.cells
          obtain ⟨x0, x1, x2⟩ := hh.nx.cells
          clear hy hh HH
          cases o with
          | false =>
            have hxs := HGS.out rfl
            have ex1 : x.n = s.n := by rw [hxs]
            have ex2 : x.t = s.t := by rw [hxs]
            have ex3 : x.d = s.d := by rw [hxs]
            rw [ex1] at x0; rw [ex2] at x1; rw [ex3] at x2
            clear hxs ex1 ex2 ex3 y0 y1 y2
            go_wp2_with fail
            go_ret
            exact ⟨by simp, HHr.out.bel⟩
          | true =>
            have hof := fun W => of_any x W
            rw [hxv] at hof
            have HOF := Lib.hid hof; clear hof
            have hleft := fun W (h : RdAt W p b (n + adv)) => Left_any p b (by omega) (n + adv) (by omega) W h
            have HLEFT := Lib.hid hleft; clear hleft
            have hrl : (Bit.str R).size = 8 * b.size - (n + adv) := by rw [Bit.str_size, HGR.out, List.length_drop, List.length_drop, hgl]; omega
            have hh := HHr.out
            go_upto_region 13 with fail
            go_region_held3 (fun W => W.cell? ⟨gx, 0, none⟩ = some (.int .i64 x.n) ∧ W.cell? ⟨gx, 1, none⟩ = some (.int .i64 x.t) ∧ W.cell? ⟨gx, 2, none⟩ = some (.int .i64 x.d) ∧
                W.cell? ⟨gy, 0, none⟩ = some (.int .i64 x.n) ∧ W.cell? ⟨gy, 1, none⟩ = some (.int .i64 x.t) ∧ W.cell? ⟨gy, 2, none⟩ = some (.int .i64 x.d) ∧ GetHeld w p b (n + adv) gx s x W)
              (first | exact ⟨x0, x1, x2, y0, y1, y2, hh.drew⟩ | (go_split_ands; refine ⟨?_, ?_, ?_, ?_, ?_, ?_, ?_⟩ <;> first | assumption | exact cell_keep (by assumption) hb2 | exact GetHeld.later (by assumption) hb2))
              (first | (go_at_call 14; refine (HOF.out _).mono ?_; rintro e W2 ⟨rfl, hb2⟩) | (go_at_call 24; go_split_ands; refine (HLEFT.out _ (GetHeld.rd (by assumption))).mono ?_; rintro e W2 ⟨rfl, hd2⟩; have hb2 := below_of_drew hd2))
            go_wp2_with fail
            go_ret
            go_split_ands
            exact ⟨by simp, GetHeld.bel (by assumption)⟩
      · have d2 : decide (1099511627776 < s.n) = true := by simp; omega
        go_wp2_with fail
        go_ret
        exact ⟨rfl, HB2.out⟩
  · have d0 : decide ((60 : Int) < (b.size : Int)) = true := by simp; omega
    go_wp2_with fail
    go_ret
    exact ⟨rfl, HB2.out⟩
theorem stampGets_walk {H : Type} {enc : TypeId × Value → H} {r : Reach} {b0 : Nat} {v : Value} {d : DataW H} {p : List MemPlace} (w : World) (hT : ClsOk w) (b : ByteArray) (hb : b.size ≤ maxLen) (k : Int) (hk : (Lit.int .u8 k).wf = true)
    (hv : Value.okWide Tryd.prog w r b0 23 v) (h : DataW.Trod enc Tryd.prog w 0 (fun _ => true) true 23 v d p) :
    Calls Tryd.prog 4 #[.string b, .int .u8 k, v] w fun e w' => e = .returned (.bool true) ∧ Below w.heap.size w w' := by
  obtain ⟨s, rfl, _⟩ := open_state hv h
  obtain ⟨n, rfl, hn⟩ := byte_nat k hk
  exact stampGets_walk0 w hT b hb n hn s
end Go.Proofs.YtopdhcbhhkajpaaDoor
