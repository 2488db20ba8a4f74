/-
  What getBits of package chunk comes to.
-/
import Derived.Test.YtfgcgjogaaofdaaGreatDoorChF
import Derived.Test.YtfgcgjogaaofdaaGreatDoorChB
namespace Go.Proofs.YtfgcgjogaaofdaaGreatDoor
open Go.RowKit
theorem zip_lst (l1 : List Int) (l2 : List Nat) (m : Nat) (h1 : l1.length = m) (h2 : l2.length = m) : Ch.lst (fun i => l1.getD i 0) (fun i => l2.getD i 0) m = l1.zip l2 := by
  apply List.ext_getElem
  · simp [Ch.lst]; omega
  · intro i hi hj
    simp [Ch.lst] at hi
    simp [Ch.lst, List.getD, h1, h2, hi]
def bad3 (s : Nat × (ByteArray × Bool)) : Bool := s.2.2
theorem rd_step3 (ts : Nat → Int) (vs : Nat → Nat) (m : Nat) (c : ByteArray × Bool) (hc : c.2 = false) : Ch.rd (step3 ts vs) bad3 m [] (0, c) = (Ch.lst ts vs m, (m, c)) := by
  have := Ch.rd_cat (step3 ts vs) bad3 (fun _ => ByteArray.empty) (fun k _ => (k, c)) (fun i => (ts i, vs i)) m (fun _ _ => hc) (fun k b _ => rfl) ByteArray.empty m 0 [] (by omega)
  rw [show ((0, c) : Nat × (ByteArray × Bool)) = ((fun (k : Nat) (_ : ByteArray) => (k, c)) 0 (Ch.cat (fun _ => ByteArray.empty) 0 m ++ ByteArray.empty)) from rfl, this]
  simp [Ch.lst, List.range_eq_range']
theorem readB_got {w0 : World} {ib tb vb b m : Nat} {A1 : Option Addr} {c1 : Nat} {A2 : Option Addr} {c2 : Nat} (l1 : List Int) (l2 : List Nat) (h1 : l1.length = m) (h2 : l2.length = m) (hm : m ≤ 200) (c : ByteArray × Bool) (hc : c.2 = false) (W : World)
    (hI : InvB w0 W.heap.size ib tb vb b m A1 c1 A2 c2 (fun i => l1.getD i 0) (fun i => l2.getD i 0) (0, c) W) :
    Calls Tryz.prog 48 #[.pointer (some ⟨b, 0, none⟩), .int .u64 (m : Nat), .func (.func 63) #[] #[.pointer (some ⟨ib, 0, none⟩), .pointer (some ⟨tb, 0, none⟩), .pointer (some ⟨vb, 0, none⟩)]] W (GotP (l1.zip l2, c) b (OneSet ib) W) := by
  refine (read_any (step3 (fun i => l1.getD i 0) (fun i => l2.getD i 0)) bad3 (fun s => s.2.1) 63 #[.pointer (some ⟨ib, 0, none⟩), .pointer (some ⟨tb, 0, none⟩), .pointer (some ⟨vb, 0, none⟩)] (fun args w => enters_of Tryz.func63 (by kernel_rfl) rfl args w) b (OneSet ib) W (InvB w0 W.heap.size ib tb vb b m A1 c1 A2 c2 (fun i => l1.getD i 0) (fun i => l2.getD i 0)) (fun k s => s = (k, c))
      (fun s U h => h.cu) (fun s U U2 h hb => h.below hb) (fun k hk => by have : k = ib := hk; have := hI.l1; omega) m (fun _ _ _ hs => by subst hs; rfl)
      (fun k s U hk hs hI2 hU => by subst hs; exact readB_one (by omega) k c U hI2 hk hU) hm (0, c) hI rfl).mono ?_
  rintro e w' ⟨A, cc, rfl, hown, hinv, hfar⟩
  rw [rd_step3 _ _ m c hc] at hown hinv ⊢
  have hf : Ch.fin bad3 (Ch.lst (fun i => l1.getD i 0) (fun i => l2.getD i 0) m, (m, c)) = l1.zip l2 := by
    unfold Ch.fin bad3
    simp only [hc]
    exact zip_lst l1 l2 m h1 h2
  rw [hf] at hown ⊢
  exact ⟨A, cc, rfl, own_smp hown, hinv.cu, hfar⟩
theorem TabOk.cur {W W2 : World} {b : Nat} (h : TabOk W) (hg : W.grownBy W2 (some b)) (hb : 2 ≤ b) : TabOk W2 := h.grown hg (fun r e => by cases e; exact hb)
theorem ClsOk.cur {W W2 : World} {b : Nat} (h : ClsOk W) (hg : W.grownBy W2 (some b)) (hb : 2 ≤ b) : ClsOk W2 := h.grown hg (fun r e => by cases e; omega)
theorem IntRow.cur {W W2 : World} {A : Option Addr} {n : Nat} {k : IntKind} {f : Nat → Int} {b : Nat} {s : ByteArray} {bad : Bool} (h : IntRow W A n k f) (hc : CurAt b s bad W) (hg : W.grownBy W2 (some b)) : IntRow W2 A n k f := fun hn => by
  obtain ⟨ad, e, hlt, hc2⟩ := h hn
  have hbl : ∀ j, (ad.add j).block = ad.block := fun j => by unfold Addr.add; split <;> rfl
  have hne : ad.block ≠ b := by
    intro eq
    have h0 := (hc2 0 hn).1
    have hc' : W.heap[ad.block]? = some (.cells #[.string s, .bool bad] 53 (0, 0)) := by rw [eq]; exact hc
    unfold World.cell? at h0
    rw [hbl, hc'] at h0
    simp only at h0
    split at h0
    · cases h0
    · generalize (ad.add 0).off = o at h0
      match o, h0 with
      | 0, h0 => simp at h0
      | 1, h0 => simp at h0
      | o + 2, h0 => simp at h0
  refine ⟨ad, e, Nat.lt_of_lt_of_le hlt hg.size, fun i hi => ⟨?_, (hc2 i hi).2⟩⟩
  rw [← (hc2 i hi).1]
  exact World.cell?_of_block (w := W) (by rw [hbl]; exact hg.block _ hlt (fun e2 => hne (by cases e2; rfl)))
/-- what getBits holds on to -/
structure GB (w : World) (b : Nat) (c : ByteArray × Bool) (W : World) : Prop where
  cu : CurAt b c.1 c.2 W
  cl : ClsOk W
  tb : TabOk W
  far : Far w W (OneSet b)
theorem GB.later {w : World} {b : Nat} {c : ByteArray × Bool} {W W2 : World} (h : GB w b c W) (hb : Below W.heap.size W W2) : GB w b c W2 := ⟨heap_keep h.cu hb, h.cl.later hb, h.tb.later hb, h.far.trans (far_of_below hb _) (fun _ hk => .inl hk)⟩
theorem GB.next {w : World} {b : Nat} {c c2 : ByteArray × Bool} {W W2 : World} (h : GB w b c W) (hc : CurAt b c2.1 c2.2 W2) (hg : W.grownBy W2 (some b)) (hb : 2 ≤ b) : GB w b c2 W2 := ⟨hc, h.cl.cur hg hb, h.tb.cur hg hb, h.far.step hg (fun r e => by cases e; exact .inl rfl)⟩
theorem parse3_bad {c : ByteArray × Bool} (h : ¬ 200 < (Ch.adv false c).1) (hb : (Ch.advT (Ch.advT (Ch.adv false c).2).2).2.2 = true ∨ St.read (Ch.advT (Ch.adv false c).2).1 ((Ch.adv false c).1 : Nat) = none ∨ Va.read (Ch.advT (Ch.advT (Ch.adv false c).2).2).1 ((Ch.adv false c).1 : Nat) = none) :
    Ch.parse3 c = ([], (Ch.advT (Ch.advT (Ch.adv false c).2).2).2.1, true) := by
  unfold Ch.parse3
  rw [if_neg h]
  rcases hb with hb | hb | hb
  · rw [if_pos hb]
  · rw [hb]; split <;> rfl
  · rw [hb]
    split
    · rfl
    · split
      · rename_i h2; cases h2
      · rfl
set_option maxRecDepth 100000 in
set_option maxHeartbeats 2000000 in
theorem getBits_any (b : Nat) (hb2 : 2 ≤ b) (c : ByteArray × Bool) (hs : c.1.size ≤ 100000) (w : World) (hc : CurAt b c.1 c.2 w) (hC : ClsOk w) (hT : TabOk w) :
    Calls Tryz.prog 36 #[.pointer (some ⟨b, 0, none⟩)] w (GotP (Ch.parse3 c) b (OneSet b) w) := by
  have hbl : b < w.heap.size := (Array.getElem?_eq_some_iff.1 hc).1
  have HG : Hid (GB w b c w) := Lib.hid ⟨hc, hC, hT, Far.refl _ _⟩
  have z1 := Ch.adv_size false c
  have z2 := (Ch.advT_size (Ch.adv false c).2)
  have z3 := (Ch.advT_size (Ch.advT (Ch.adv false c).2).2)
  have hlt := Ch.adv_lt false c
  have HW := Lib.hid (fun W h => curSmall_ch b c (by unfold maxLen; omega) W h)
  have HP := Lib.hid (fun W h => curText_ch b (Ch.adv false c).2 (by unfold maxLen; omega) W h)
  have HQ := Lib.hid (fun W h => curText_ch b (Ch.advT (Ch.adv false c).2).2 (by unfold maxLen; omega) W h)
  by_cases h200 : 200 < (Ch.adv false c).1
  · have hp : Ch.parse3 c = ([], (Ch.adv false c).2.1, true) := by unfold Ch.parse3; rw [if_pos h200]
    rw [hp]
    generalize Ch.adv false c = a at *
    obtain ⟨n, c2⟩ := a
    simp only at h200 HW ⊢
    have d0 : decide ((200 : Int) < (n : Int)) = true := by simp; omega
    clear hp hc hC hT HP HQ z1 z2 z3
    go_enter Tryz.func36, Tryz.ntmps36
    go_wp2_with fail
    refine (HW.out _ HG.out.cu).mono ?_; rintro e w1 ⟨rfl, hc1, hg1⟩
    obtain ⟨c0, c1, f0, f1⟩ := hc1.cells
    have HC1 := Lib.hid hc1; have HF1 := Lib.hid (HG.out.far.step hg1 (fun r e => by cases e; exact .inl rfl))
    clear hc1 hg1 c0
    go_wp2_with fail
    go_ret
    exact GotP.none (HC1.out.putBad true) (HF1.out.step (grown_setCell _ _ _ _) (fun r e => by cases e; exact .inl rfl))
  · have hpb := parse3_bad h200
    have hpg : ∀ ts vs, (Ch.advT (Ch.advT (Ch.adv false c).2).2).2.2 = false → St.read (Ch.advT (Ch.adv false c).2).1 ((Ch.adv false c).1 : Nat) = some ts → Va.read (Ch.advT (Ch.advT (Ch.adv false c).2).2).1 ((Ch.adv false c).1 : Nat) = some vs → Ch.parse3 c = (ts.zip vs, (Ch.advT (Ch.advT (Ch.adv false c).2).2).2) := fun ts vs e1 e2 e3 => by
      unfold Ch.parse3; rw [if_neg h200, if_neg (by rw [e1]; decide), e2, e3]
    generalize Ch.advT (Ch.advT (Ch.adv false c).2).2 = q at *
    generalize Ch.advT (Ch.adv false c).2 = p at *
    generalize Ch.adv false c = a at *
    obtain ⟨n, c2⟩ := a
    obtain ⟨pt, c3⟩ := p
    obtain ⟨qt, c4⟩ := q
    simp only at h200 HW HP HQ hpb hpg z1 z2 z3 hlt
    have d0 : decide ((200 : Int) < (n : Int)) = false := by simp; omega
    have e1 : IntKind.i64.wrap (n : Int) = (n : Int) := IntWalk.i64_in _ (by omega)
    have e2 : wrap64 (n : Int) = (n : Int) := IntWalk.wrap64_in _ (by omega)
    have HPB := Lib.hid hpb; have HPG := Lib.hid hpg
    clear hc hC hT hpb hpg
    go_enter Tryz.func36, Tryz.ntmps36
    go_wp2_with fail
    refine (HW.out _ HG.out.cu).mono ?_; rintro e w1 ⟨rfl, hc1, hg1⟩
    have HG1 := Lib.hid (HG.out.next hc1 hg1 hb2); clear hc1 hg1
    obtain ⟨c0, -, -, -⟩ := HG1.out.cu.cells
    go_wp2_with fail
    refine (HP.out _ HG1.out.cu).mono ?_; rintro e w2 ⟨rfl, hc2, hg2⟩
    have HG2 := Lib.hid (HG1.out.next hc2 hg2 hb2); clear hc2 hg2 c0
    go_wp2_with fail
    refine (stRead_any pt (by omega) n w2 HG2.out.cl).mono ?_; rintro e w3 ⟨A1, k1, l1, o1, rfl, hb3, hr1, hd1⟩
    have HG3 := Lib.hid (HG2.out.later hb3); have HD1 := Lib.hid hd1; have HR1 := Lib.hid hr1
    clear hb3 hr1 hd1
    generalize hm1 : l1.length = m1 at *
    have hal : Below w3.heap.size w3 (w3.alloc (.cells #[.slice A1 m1 k1] 45)) := (Below.refl _ _).alloc (Nat.le_refl _) _
    have HG4 := Lib.hid (HG3.out.later hal)
    have HT4 : Hid (RowIs (w3.alloc (.cells #[.slice A1 m1 k1] 45)) w3.heap.size (.cells #[.slice A1 m1 k1] 45)) := Lib.hid (RowIs.one _ _)
    have HR4 := Lib.hid (IntRow.later HR1.out hal)
    have hz3 := HG3.out.far.size
    have hz2 := HG2.out.far.size
    clear hal HG3 HR1
    obtain ⟨c0, -, -, -⟩ := HG4.out.cu.cells
    have hb3l : w3.heap.size ≠ b := by omega
    go_wp2_with fail
    refine (HQ.out _ HG4.out.cu).mono ?_; rintro e w5 ⟨rfl, hc5, hg5⟩
    have HG5 := Lib.hid (HG4.out.next hc5 hg5 hb2)
    have HT5 : Hid (RowIs w5 w3.heap.size (.cells #[.slice A1 m1 k1] 45)) := Lib.hid (grown_keep HT4.out hg5 hb3l)
    have HR5 := Lib.hid (HR4.out.cur HG4.out.cu hg5)
    clear hc5 hg5 c0 HG4 HT4 HR4
    go_wp2_with fail
    refine (vRead_any qt (by omega) n w5 HG5.out.tb).mono ?_; rintro e w6 ⟨A2, k2, l2, o2, rfl, hb6, hr2, hd2⟩
    have HG6 := Lib.hid (HG5.out.later hb6); have HD2 := Lib.hid hd2; have HR2 := Lib.hid hr2; have HT6 := Lib.hid (HT5.out.keep hb6); have HR6 := Lib.hid (IntRow.later HR5.out hb6)
    clear hb6 hr2 hd2
    generalize hm2 : l2.length = m2 at *
    have hal : Below w6.heap.size w6 (w6.alloc (.cells #[.slice A2 m2 k2] 46)) := (Below.refl _ _).alloc (Nat.le_refl _) _
    have HG7 := Lib.hid (HG6.out.later hal)
    have HT6z : w3.heap.size < w6.heap.size := (Array.getElem?_eq_some_iff.1 HT6.out).1
    have HV7 : Hid (RowIs (w6.alloc (.cells #[.slice A2 m2 k2] 46)) w6.heap.size (.cells #[.slice A2 m2 k2] 46)) := Lib.hid (RowIs.one _ _)
    have HT7 := Lib.hid (HT6.out.keep hal)
    have HR7 := Lib.hid (IntRow.later HR6.out hal)
    have HS7 := Lib.hid (IntRow.later HR2.out hal)
    clear HG6 HT6 HR6 HR2 HG5 HT5 HR5
    go_upto_region 7 with fail
    generalize w6.alloc (.cells #[.slice A2 m2 k2] 46) = w7 at *
    have hv7 : w6.heap.size < w7.heap.size := (Array.getElem?_eq_some_iff.1 HV7.out).1
    obtain ⟨-, c1, f0, f1⟩ := HG7.out.cu.cells
    cases hbad : c4.2
    · rw [hbad] at c1
      cases o1
      · have hno : St.read pt (n : Nat) = none := by
          rcases HD1.out with ⟨h, -⟩ | ⟨-, -, h⟩
          · cases h
          · exact h
        go_wp2_with fail
        go_ret
        rw [HPB.out (.inr (.inl hno))]
        exact GotP.none (HG7.out.cu.putBad true) (HG7.out.far.step (grown_setCell _ _ _ _) (fun r e => by cases e; exact .inl rfl))
      · cases o2
        · have hno : Va.read qt (n : Nat) = none := by
            rcases HD2.out with ⟨h, -⟩ | ⟨-, -, h⟩
            · cases h
            · exact h
          go_wp2_with fail
          go_ret
          rw [HPB.out (.inr (.inr hno))]
          exact GotP.none (HG7.out.cu.putBad true) (HG7.out.far.step (grown_setCell _ _ _ _) (fun r e => by cases e; exact .inl rfl))
        · have hy1 : St.read pt (n : Nat) = some l1 := by
            rcases HD1.out with ⟨-, h⟩ | ⟨h, -, -⟩
            · exact h
            · cases h
          have hy2 : Va.read qt (n : Nat) = some l2 := by
            rcases HD2.out with ⟨-, h⟩ | ⟨h, -, -⟩
            · exact h
            · cases h
          have hn1 := (St.read_some hy1).1
          have hn2 := (Va.read_some hy2).1
          have hmn : m1 = n := by have h := hn1; rw [hm1] at h; exact Int.ofNat_inj.1 h
          have hmn2 : m2 = n := by have h := hn2; rw [hm2] at h; exact Int.ofNat_inj.1 h
          have ht7 : RowIs w7 w3.heap.size (.cells #[.slice A1 n k1] 45) := by have h := HT7.out; rw [hmn] at h; exact h
          have hvv7 : RowIs w7 w6.heap.size (.cells #[.slice A2 n k2] 46) := by have h := HV7.out; rw [hmn2] at h; exact h
          have hr7 : IntRow w7 A1 n .i64 (fun i => l1.getD i 0) := by have h := HR7.out; rw [hmn] at h; exact h
          have hs7 : IntRow w7 A2 n .u64 (fun i => ((l2.getD i 0 : Nat) : Int)) := by have h := HS7.out; rw [hmn2] at h; exact h
          have hal : Below w7.heap.size w7 (w7.alloc (.cells #[.int .i64 0] 3)) := (Below.refl _ _).alloc (Nat.le_refl _) _
          have hz8 : (w7.alloc (.cells #[.int .i64 0] 3)).heap.size = w7.heap.size + 1 := by simp
          have hbl7 : b < w7.heap.size := (Array.getElem?_eq_some_iff.1 HG7.out.cu).1
          have HI : Hid (InvB w7 (w7.alloc (.cells #[.int .i64 0] 3)).heap.size w7.heap.size w3.heap.size w6.heap.size b n A1 k1 A2 k2 (fun i => l1.getD i 0) (fun i => l2.getD i 0) (0, c4) (w7.alloc (.cells #[.int .i64 0] 3))) :=
            Lib.hid ⟨RowIs.one _ _, ht7.keep hal, hvv7.keep hal, hr7, hs7, heap_keep HG7.out.cu hal, hal, Nat.le_refl _, by omega, by omega, by omega, by omega, by omega, by omega, by omega, by omega⟩
          have HRD := Lib.hid (readB_got l1 l2 (hm1.trans hmn) (hm2.trans hmn2) (Nat.not_lt.1 h200) c4 hbad _ HI.out)
          have HPR := Lib.hid (HPG.out l1 l2 hbad hy1 hy2)
          generalize l1.zip l2 = L at HRD HPR
          have HAL := Lib.hid hal
          have hmf := run_make_func
          clear hal hy1 hy2 hn1 hn2 hz8 hmn hmn2 ht7 hvv7 hr7 hs7 hm1 hm2 hlt
          go_wp2_with fail
          refine HRD.out.mono ?_; rintro e w9 ⟨A, cc, rfl, hr, hcu, hf⟩
          have HF9 := Lib.hid ((HG7.out.far.trans (far_of_below HAL.out _) (fun k hk => .inl hk)).trans hf (fun k hk => .inr (by have : k = w7.heap.size := hk; have := HG7.out.far.size; omega)))
          have HRW := Lib.hid hr; have HCU := Lib.hid hcu
          clear hr hcu hf
          go_wp2_with fail
          go_ret
          rw [HPR.out]
          exact ⟨A, cc, rfl, HRW.out, HCU.out, HF9.out⟩
    · rw [hbad] at c1
      go_wp2_with fail
      go_ret
      rw [HPB.out (.inl hbad)]
      exact GotP.none (HG7.out.cu.putBad true) (HG7.out.far.step (grown_setCell _ _ _ _) (fun r e => by cases e; exact .inl rfl))
end Go.Proofs.YtfgcgjogaaofdaaGreatDoor
