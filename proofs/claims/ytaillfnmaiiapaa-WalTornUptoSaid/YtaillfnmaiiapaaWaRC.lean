import Derived.Test.YtaillfnmaiiapaaWaR
/-
  The labels that a series told: the walk, where nothing was told.
-/
namespace Go.Proofs.Ytaillfnmaiiapaa
open Go.RowKit
/-- what readSeries comes to -/
def RdSer (w : World) (base nb mb cb : Nat) (K : List ByteArray) (c : Wa.Cu) (e : Ending) (w' : World) : Prop :=
  ∃ A cc v', e = .returned (.slice A (Wa.rdSer K c).1.length cc) ∧ LabOwn w' base (Wa.rdSer K c).1 A cc ∧ NamesIn w' base nb mb v' (Wa.rdSer K c).2.1 ∧ CurAt cb (Wa.rdSer K c).2.2.s (Wa.rdSer K c).2.2.bad w' ∧ RKeeps mb w w' ∧ Below base w w'
theorem cur_below {w w2 : World} {base cb : Nat} (hg : w.grownBy w2 (some cb)) (hb : base ≤ cb) (hs : base ≤ w.heap.size) : Below base w w2 := (Below.refl base w).grown hg hs (fun r e => by obtain rfl : cb = r := Option.some.inj e; exact hb)
theorem rdSer_bad {K : List ByteArray} {c : Wa.Cu} (h : c.small.2.bad = true) : Wa.rdSer K c = ([], K, ⟨c.small.2.s, true⟩) := by
  unfold Wa.rdSer
  rw [if_neg (by rw [h]; simp), if_pos (Or.inl h)]
set_option maxRecDepth 100000 in
set_option maxHeartbeats 2000000 in
theorem readSeries_bad {w : World} {base nb mb cb : Nat} {v : Value} {K : List ByteArray} (h : NamesIn w base nb mb v K) (c : Wa.Cu) (hs : c.s.size ≤ maxLen) (hc : CurAt cb c.s c.bad w) (hcb : base ≤ cb) (hbad : c.small.2.bad = true) :
    Calls Try.prog 93 #[.pointer (some ⟨nb, 0, none⟩), .pointer (some ⟨cb, 0, none⟩)] w (RdSer w base nb mb cb K c) := by
  have H := Lib.hid h
  have hsz : base ≤ w.heap.size := by have := (Array.getElem?_eq_some_iff.1 h.cells).1; have := h.nlo; omega
  have HC := Lib.hid (cuSmall cb c hs w hc)
  have HC0 := Lib.hid hc
  unfold RdSer
  rw [rdSer_bad hbad]
  generalize c.small = x at *
  obtain ⟨n, s1, b1⟩ := x
  simp only at hbad
  subst hbad
  clear h hc
  go_enter Try.func93, Try.ntmps93
  go_wp2_with fail
  refine HC.out.mono ?_; rintro e w1 ⟨rfl, hc1, hg1⟩
  have H1 := Lib.hid (H.out.cur HC0.out hg1)
  have HR1 := Lib.hid (RKeeps.cur (mb := mb) HC0.out hg1)
  have HB1 := Lib.hid (cur_below hg1 hcb hsz)
  obtain ⟨z0, z1, f0, f1⟩ := hc1.cells
  have HC1 := Lib.hid hc1
  clear hg1 hc1
  go_wp2_with fail
  go_ret
  have hg2 := grown_setCell w1 cb 1 (.bool true)
  exact ⟨none, 0, v, rfl, ⟨fun h0 => absurd h0 (by simp), World.ownsRow_nil _ _ _ _⟩, H1.out.cur HC1.out hg2, HC1.out.putBad true, HR1.out.trans (RKeeps.cur HC1.out hg2), HB1.out.setCell hcb _⟩
theorem rdSer_out {K : List ByteArray} {c : Wa.Cu} (_h : c.small.2.bad = false) (hn : K.length < c.small.1) : Wa.rdSer K c = ([], K, ⟨c.small.2.s, true⟩) := by
  unfold Wa.rdSer
  rw [if_neg (by rintro ⟨-, e⟩; omega), if_pos (Or.inr (by omega))]
theorem rdSer_in {K : List ByteArray} {c : Wa.Cu} (h : c.small.2.bad = false) (hn : c.small.1 < K.length) : Wa.rdSer K c = (Wa.unkey (K.getD c.small.1 ByteArray.empty), K, c.small.2) := by
  unfold Wa.rdSer
  rw [if_neg (by rintro ⟨-, e⟩; omega), if_neg (by rw [h]; rintro (e | e); (· simp at e); omega)]
set_option maxRecDepth 100000 in
set_option maxHeartbeats 2000000 in
theorem readSeries_out {w : World} {base nb mb cb : Nat} {v : Value} {K : List ByteArray} (h : NamesIn w base nb mb v K) (hK : K.length ≤ 900000) (c : Wa.Cu) (hs : c.s.size ≤ maxLen) (hc : CurAt cb c.s c.bad w) (hcb : base ≤ cb) (hbad : c.small.2.bad = false) (hn : K.length < c.small.1) :
    Calls Try.prog 93 #[.pointer (some ⟨nb, 0, none⟩), .pointer (some ⟨cb, 0, none⟩)] w (RdSer w base nb mb cb K c) := by
  obtain ⟨A, kc, rfl, -⟩ := own_row h.keys
  have H := Lib.hid h
  have hsz : base ≤ w.heap.size := by have := (Array.getElem?_eq_some_iff.1 h.cells).1; have := h.nlo; omega
  have HC := Lib.hid (cuSmall cb c hs w hc)
  have HC0 := Lib.hid hc
  unfold RdSer
  rw [rdSer_out hbad hn]
  generalize c.small = x at *
  obtain ⟨n, s1, b1⟩ := x
  simp only at hbad hn
  subst hbad
  clear h hc
  go_enter Try.func93, Try.ntmps93
  go_wp2_with fail
  refine HC.out.mono ?_; rintro e w1 ⟨rfl, hc1, hg1⟩
  have h1 := H.out.cur HC0.out hg1
  have k0 := cell_of_row _ _ 0 _ _ _ h1.cells
  simp only [List.getElem?_toArray, List.getElem?_cons_zero] at k0
  have H1 := Lib.hid h1
  have HR1 := Lib.hid (RKeeps.cur (mb := mb) HC0.out hg1)
  have HB1 := Lib.hid (cur_below hg1 hcb hsz)
  obtain ⟨z0, z1, f0, f1⟩ := hc1.cells
  have HC1 := Lib.hid hc1
  clear hg1 hc1 h1
  have i0 : (0 : Int) ≤ (K.length : Int) := Int.natCast_nonneg _
  have u1 : IntKind.u64.wrap (K.length : Int) = (K.length : Int) := by rw [IntKind.wrap_u64]; omega
  have e1 : ((n : Int) == (K.length : Int)) = false := beq_eq_false_iff_ne.2 (by omega)
  have e2 : decide ((K.length : Int) ≤ (n : Int)) = true := decide_eq_true (by omega)
  have e3 : decide (K.length ≤ n) = true := decide_eq_true (by omega)
  go_wp2_with fail
  go_ret
  have hg2 := grown_setCell w1 cb 1 (.bool true)
  exact ⟨none, 0, _, rfl, ⟨fun h0 => absurd h0 (by simp), World.ownsRow_nil _ _ _ _⟩, H1.out.cur HC1.out hg2, HC1.out.putBad true, HR1.out.trans (RKeeps.cur HC1.out hg2), HB1.out.setCell hcb _⟩
set_option maxRecDepth 100000 in
set_option maxHeartbeats 2000000 in
theorem readSeries_in {w : World} {base nb mb cb : Nat} {v : Value} {K : List ByteArray} (h : NamesIn w base nb mb v K) (hK : K.length ≤ 900000) (hks : ∀ k ∈ K, k.size ≤ maxLen) (c : Wa.Cu) (hs : c.s.size ≤ maxLen) (hc : CurAt cb c.s c.bad w) (hcb : base ≤ cb) (hbad : c.small.2.bad = false) (hn : c.small.1 < K.length) :
    Calls Try.prog 93 #[.pointer (some ⟨nb, 0, none⟩), .pointer (some ⟨cb, 0, none⟩)] w (RdSer w base nb mb cb K c) := by
  obtain ⟨A, kc, rfl, -⟩ := own_row h.keys
  have H := Lib.hid h
  have hsz : base ≤ w.heap.size := by have := (Array.getElem?_eq_some_iff.1 h.cells).1; have := h.nlo; omega
  have HC := Lib.hid (cuSmall cb c hs w hc)
  have HC0 := Lib.hid hc
  unfold RdSer
  rw [rdSer_in hbad hn]
  generalize c.small = x at *
  obtain ⟨n, s1, b1⟩ := x
  simp only at hbad hn
  subst hbad
  clear h hc
  obtain ⟨kk, hkk⟩ : ∃ kk, kk = K.getD n ByteArray.empty := ⟨_, rfl⟩
  have hkz : kk.size ≤ maxLen := by
    rw [hkk, List.getD_eq_getElem?_getD, List.getElem?_eq_getElem hn]
    exact hks _ (List.getElem_mem hn)
  have HOF := Lib.hid (fun W => lOf_any kk hkz W)
  have HKK := Lib.hid hkk
  dsimp only
  rw [← hkk]
  clear hkk
  go_enter Try.func93, Try.ntmps93
  go_wp2_with fail
  refine HC.out.mono ?_; rintro e w1 ⟨rfl, hc1, hg1⟩
  have h1 := H.out.cur HC0.out hg1
  have k0 := cell_of_row _ _ 0 _ _ _ h1.cells
  simp only [List.getElem?_toArray, List.getElem?_cons_zero] at k0
  obtain ⟨A', kc', ek, -, -, -, hrow⟩ := own_row h1.keys
  cases ek
  obtain ⟨ad, rfl, x0, -⟩ := hrow.at_ (Below.refl _ _) hn
  have x1 : w1.cell? (ad.add n) = some (.string kk) := by have := x0 (by decide); rw [Nat.mul_one] at this; rw [this, HKK.out]; rfl
  have H1 := Lib.hid h1
  have HR1 := Lib.hid (RKeeps.cur (mb := mb) HC0.out hg1)
  have HB1 := Lib.hid (cur_below hg1 hcb hsz)
  obtain ⟨z0, z1, f0, f1⟩ := hc1.cells
  have HC1 := Lib.hid hc1
  clear hg1 hc1 h1 x0 hrow
  have i0 : (0 : Int) ≤ (K.length : Int) := Int.natCast_nonneg _
  have j0 : (0 : Int) ≤ (n : Int) := Int.natCast_nonneg _
  have j1 : (n : Int) < (K.length : Int) := Int.ofNat_lt.2 hn
  have u1 : IntKind.u64.wrap (K.length : Int) = (K.length : Int) := by rw [IntKind.wrap_u64]; omega
  have e1 : ((n : Int) == (K.length : Int)) = false := beq_eq_false_iff_ne.2 (by omega)
  have e2 : decide ((K.length : Int) ≤ (n : Int)) = false := decide_eq_false (by omega)
  have e3 : decide (K.length ≤ n) = false := decide_eq_false (by omega)
  go_wp2_with fail
  refine (HOF.out w1).mono ?_; rintro e w2 hl
  rcases hl with ⟨L, A2, c2, ho, rfl, -, -, hrow2, hb2⟩ | ⟨ho, rfl, hb2⟩
  · have HB2 : Hid (Below base w w2) := Lib.hid (HB1.out.trans (hb2.mono (by have := HB1.out.size; omega)))
    have HRES : Hid (Wa.unkey kk = L) := Lib.hid (by unfold Wa.unkey; rw [ho]; rfl)
    have HROW := Lib.hid hrow2; have HBB := Lib.hid hb2
    clear hrow2 hb2
    go_wp2_with fail
    go_ret
    rw [HRES.out]
    exact ⟨A2, c2, _, rfl, ⟨HROW.out.1, own_from HROW.out.2 (by have := HB1.out.size; omega)⟩, H1.out.later HBB.out, heap_keep HC1.out HBB.out, HR1.out.trans (RKeeps.below HBB.out), HB2.out⟩
  · have HB2 : Hid (Below base w w2) := Lib.hid (HB1.out.trans (hb2.mono (by have := HB1.out.size; omega)))
    have HRES : Hid (Wa.unkey kk = []) := Lib.hid (by unfold Wa.unkey; rw [ho]; rfl)
    have HBB := Lib.hid hb2
    clear hb2
    go_wp2_with fail
    go_ret
    rw [HRES.out]
    exact ⟨none, 0, _, rfl, ⟨fun h0 => absurd h0 (by simp), World.ownsRow_nil _ _ _ _⟩, H1.out.later HBB.out, heap_keep HC1.out HBB.out, HR1.out.trans (RKeeps.below HBB.out), HB2.out⟩
end Go.Proofs.Ytaillfnmaiiapaa
/-
  The labels that a series told: the walk, where the key is told.
-/
namespace Go.Proofs.Ytaillfnmaiiapaa
open Go.RowKit
theorem Wa.text_size (c : Wa.Cu) (m : Int) : (c.text m).1.size ≤ c.s.size := by
  unfold Wa.Cu.text Wa.Cu.go Num.curV
  show (if (c.bad || !Num.xOk m c.s) = true then ByteArray.empty else if Num.xOk m c.s = true then Num.xV c.s else ByteArray.empty).size ≤ _
  split
  · simp
  · split
    · unfold Num.xV; rw [ByteArray.size_extract]; omega
    · simp
theorem rdSer_no {K : List ByteArray} {c : Wa.Cu} (h : c.small.2.bad = false) (hn : c.small.1 = K.length) (ho : (La.of (c.small.2.text c.small.2.s.size).1).isNone = true ∨ (Wa.place K (c.small.2.text c.small.2.s.size).1).isSome = true) :
    Wa.rdSer K c = ([], K, ⟨(c.small.2.text c.small.2.s.size).2.s, true⟩) := by
  unfold Wa.rdSer
  rw [if_pos ⟨h, hn⟩, if_pos ho]
set_option maxRecDepth 100000 in
set_option maxHeartbeats 2000000 in
theorem readSeries_no {w : World} {base nb mb cb : Nat} {v : Value} {K : List ByteArray} (h : NamesIn w base nb mb v K) (hK : K.length ≤ 900000) (c : Wa.Cu) (hs : c.s.size ≤ maxLen) (hc : CurAt cb c.s c.bad w) (hcb : base ≤ cb) (hbad : c.small.2.bad = false) (hn : c.small.1 = K.length)
    (ho : (La.of (c.small.2.text c.small.2.s.size).1).isNone = true ∨ (Wa.place K (c.small.2.text c.small.2.s.size).1).isSome = true) :
    Calls Try.prog 93 #[.pointer (some ⟨nb, 0, none⟩), .pointer (some ⟨cb, 0, none⟩)] w (RdSer w base nb mb cb K c) := by
  obtain ⟨A, kc, rfl, -⟩ := own_row h.keys
  have H := Lib.hid h
  have hsz : base ≤ w.heap.size := by have := (Array.getElem?_eq_some_iff.1 h.cells).1; have := h.nlo; omega
  have HC := Lib.hid (cuSmall cb c hs w hc)
  have HC0 := Lib.hid hc
  have hs1 : c.small.2.s.size ≤ c.s.size := Wa.go_size _ _ _ _ _
  unfold RdSer
  rw [rdSer_no hbad hn ho]
  generalize c.small = x at *
  obtain ⟨n, s1, b1⟩ := x
  simp only at hbad hn hs1 ho ⊢
  subst hbad
  subst hn
  have hs1' : s1.size ≤ 9223372036854775807 := by unfold maxLen at hs; omega
  have HTX := Lib.hid (fun (W : World) (hW : CurAt cb s1 false W) => cuText cb ⟨s1, false⟩ (by show s1.size ≤ _; omega) s1.size (Lib.hid (by omega)) W hW)
  have htz := Wa.text_size ⟨s1, false⟩ s1.size
  generalize Wa.Cu.text ⟨s1, false⟩ (s1.size : Nat) = y at *
  obtain ⟨k, s2, b2⟩ := y
  simp only at htz ho ⊢
  have hkz : k.size ≤ maxLen := by omega
  have HOF := Lib.hid (fun W => lOf_any k hkz W)
  have HO := Lib.hid ho
  clear h hc ho
  go_enter Try.func93, Try.ntmps93
  go_wp2_with fail
  refine HC.out.mono ?_; rintro e w1 ⟨rfl, hc1, hg1⟩
  have h1 := H.out.cur HC0.out hg1
  have k0 := cell_of_row _ _ 0 _ _ _ h1.cells
  simp only [List.getElem?_toArray, List.getElem?_cons_zero] at k0
  have HR1 := Lib.hid (RKeeps.cur (mb := mb) HC0.out hg1)
  have HB1 := Lib.hid (cur_below hg1 hcb hsz)
  obtain ⟨z0, z1, f0, f1⟩ := hc1.cells
  have HC1 := Lib.hid hc1; have H1 := Lib.hid h1
  clear hg1 hc1 h1
  have i0 : (0 : Int) ≤ (K.length : Int) := Int.natCast_nonneg _
  have u1 : IntKind.u64.wrap (K.length : Int) = (K.length : Int) := by rw [IntKind.wrap_u64]; omega
  have e1 : ((K.length : Int) == (K.length : Int)) = true := beq_self_eq_true _
  go_wp2_with fail
  refine (HTX.out w1 HC1.out).mono ?_; rintro e w2 ⟨rfl, hc2, hg2⟩
  have h2 := H1.out.cur HC1.out hg2
  have HR2 := Lib.hid (HR1.out.trans (RKeeps.cur (mb := mb) HC1.out hg2))
  have HB2 : Hid (Below base w w2) := Lib.hid (HB1.out.trans (cur_below hg2 hcb (by have := HB1.out.size; omega)))
  have c1 := cell_of_row _ _ 1 _ _ _ h2.cells
  simp only [List.getElem?_toArray, List.getElem?_cons_zero, List.getElem?_cons_succ] at c1
  have HC2 := Lib.hid hc2; have H2 := Lib.hid h2
  clear z0 z1 f0 f1 k0 hg2 hc2
  obtain ⟨pv, pb, hlook, hpb⟩ : ∃ pv pb, (Instr.lookup 76 (.map (some mb)) (.string k) true).run Try.prog w2 = .ok (.tuple #[pv, .bool pb]) w2 ∧ pb = (Wa.place K k).isSome := by
    cases hp : Wa.place K k with
    | none => exact ⟨_, false, h2.map.look_none (e := 3) true wlaw Try.underlying76 (zeroInt w2) (wkey hkz) (by rw [placeF_str, hp]; rfl), rfl⟩
    | some i => exact ⟨.int .i64 (i : Int), true, h2.map.look_some (e := 3) true wlaw Try.underlying76 (wkey hkz) (by rw [placeF_str, hp]; rfl), rfl⟩
  rw [← hpb] at HO
  clear h2 hpb
  go_wp2_with fail
  refine (HOF.out w2).mono ?_; rintro e w3 hl
  rcases hl with ⟨L, A2, c2, hoL, rfl, -, -, hrow2, hb3⟩ | ⟨hoL, rfl, hb3⟩
  · have hpt : pb = true := by
      rcases HO.out with h0 | h0
      · rw [hoL] at h0; cases h0
      · exact h0
    subst hpt
    have HC3 : Hid (CurAt cb s2 b2 w3) := Lib.hid (heap_keep HC2.out hb3); have H3 := Lib.hid (H2.out.later hb3)
    have HR3 := Lib.hid (HR2.out.trans (RKeeps.below (mb := mb) hb3))
    have HB3 : Hid (Below base w w3) := Lib.hid (HB2.out.trans (hb3.mono (by have := HB2.out.size; omega)))
    obtain ⟨z0, z1, f0, f1⟩ := HC3.out.cells
    clear hb3 hrow2 hlook c1
    go_wp2_with fail
    go_ret
    have hg4 := grown_setCell w3 cb 1 (.bool true)
    exact ⟨none, 0, _, rfl, ⟨fun h0 => absurd h0 (by simp), World.ownsRow_nil _ _ _ _⟩, H3.out.cur HC3.out hg4, HC3.out.putBad true, HR3.out.trans (RKeeps.cur HC3.out hg4), HB3.out.setCell hcb _⟩
  · have HC3 : Hid (CurAt cb s2 b2 w3) := Lib.hid (heap_keep HC2.out hb3); have H3 := Lib.hid (H2.out.later hb3)
    have HR3 := Lib.hid (HR2.out.trans (RKeeps.below (mb := mb) hb3))
    have HB3 : Hid (Below base w w3) := Lib.hid (HB2.out.trans (hb3.mono (by have := HB2.out.size; omega)))
    obtain ⟨z0, z1, f0, f1⟩ := HC3.out.cells
    clear hb3 hlook c1
    go_wp2_with fail
    go_ret
    have hg4 := grown_setCell w3 cb 1 (.bool true)
    exact ⟨none, 0, _, rfl, ⟨fun h0 => absurd h0 (by simp), World.ownsRow_nil _ _ _ _⟩, H3.out.cur HC3.out hg4, HC3.out.putBad true, HR3.out.trans (RKeeps.cur HC3.out hg4), HB3.out.setCell hcb _⟩
theorem rdSer_new {K : List ByteArray} {c : Wa.Cu} (h : c.small.2.bad = false) (hn : c.small.1 = K.length) (h1 : (La.of (c.small.2.text c.small.2.s.size).1).isNone = false) (h2 : Wa.place K (c.small.2.text c.small.2.s.size).1 = none) :
    Wa.rdSer K c = if (c.small.2.text c.small.2.s.size).2.bad = true then ([], K ++ [(c.small.2.text c.small.2.s.size).1], ⟨(c.small.2.text c.small.2.s.size).2.s, true⟩)
      else (Wa.unkey (c.small.2.text c.small.2.s.size).1, K ++ [(c.small.2.text c.small.2.s.size).1], (c.small.2.text c.small.2.s.size).2) := by
  unfold Wa.rdSer
  rw [if_pos ⟨h, hn⟩, if_neg (by rw [h1, h2]; simp)]
set_option maxRecDepth 100000 in
set_option maxHeartbeats 2000000 in
theorem readSeries_new {w : World} {base nb mb cb : Nat} {v : Value} {K : List ByteArray} (h : NamesIn w base nb mb v K) (hK : K.length ≤ 900000) (c : Wa.Cu) (hs : c.s.size ≤ maxLen) (hc : CurAt cb c.s c.bad w) (hcb : base ≤ cb) (hbad : c.small.2.bad = false) (hn : c.small.1 = K.length)
    (ho : (La.of (c.small.2.text c.small.2.s.size).1).isNone = false ∧ Wa.place K (c.small.2.text c.small.2.s.size).1 = none) :
    Calls Try.prog 93 #[.pointer (some ⟨nb, 0, none⟩), .pointer (some ⟨cb, 0, none⟩)] w (RdSer w base nb mb cb K c) := by
  obtain ⟨A, kc, rfl, -⟩ := own_row h.keys
  have H := Lib.hid h
  have hsz : base ≤ w.heap.size := by have := (Array.getElem?_eq_some_iff.1 h.cells).1; have := h.nlo; omega
  have HC := Lib.hid (cuSmall cb c hs w hc)
  have HC0 := Lib.hid hc
  have hs1 : c.small.2.s.size ≤ c.s.size := Wa.go_size _ _ _ _ _
  unfold RdSer
  obtain ⟨R, hR⟩ : ∃ R, R = Wa.rdSer K c := ⟨_, rfl⟩
  rw [← hR]
  rw [rdSer_new hbad hn ho.1 ho.2] at hR
  generalize c.small = x at *
  obtain ⟨n, s1, b1⟩ := x
  simp only at hbad hn hs1 ho hR
  subst hbad
  subst hn
  have hs1' : s1.size ≤ 9223372036854775807 := by unfold maxLen at hs; omega
  have HTX := Lib.hid (fun (W : World) (hW : CurAt cb s1 false W) => cuText cb ⟨s1, false⟩ (by show s1.size ≤ _; omega) s1.size (Lib.hid (by omega)) W hW)
  have htz := Wa.text_size ⟨s1, false⟩ s1.size
  generalize Wa.Cu.text ⟨s1, false⟩ (s1.size : Nat) = y at *
  obtain ⟨k, s2, b2⟩ := y
  simp only at htz ho hR
  have hkz : k.size ≤ maxLen := by omega
  have HOF := Lib.hid (fun W => lOf_any k hkz W)
  have HO := Lib.hid ho
  have HRD := Lib.hid hR
  clear h hc ho hR
  go_enter Try.func93, Try.ntmps93
  go_wp2_with fail
  refine HC.out.mono ?_; rintro e w1 ⟨rfl, hc1, hg1⟩
  have h1 := H.out.cur HC0.out hg1
  have k0 := cell_of_row _ _ 0 _ _ _ h1.cells
  simp only [List.getElem?_toArray, List.getElem?_cons_zero] at k0
  have HR1 := Lib.hid (RKeeps.cur (mb := mb) HC0.out hg1)
  have HB1 := Lib.hid (cur_below hg1 hcb hsz)
  obtain ⟨z0, z1, f0, f1⟩ := hc1.cells
  have HC1 := Lib.hid hc1; have H1 := Lib.hid h1
  clear hg1 hc1 h1
  have i0 : (0 : Int) ≤ (K.length : Int) := Int.natCast_nonneg _
  have u1 : IntKind.u64.wrap (K.length : Int) = (K.length : Int) := by rw [IntKind.wrap_u64]; omega
  have e1 : ((K.length : Int) == (K.length : Int)) = true := beq_self_eq_true _
  go_wp2_with fail
  refine (HTX.out w1 HC1.out).mono ?_; rintro e w2 ⟨rfl, hc2, hg2⟩
  have h2 := H1.out.cur HC1.out hg2
  have HR2 := Lib.hid (HR1.out.trans (RKeeps.cur (mb := mb) HC1.out hg2))
  have HB2 : Hid (Below base w w2) := Lib.hid (HB1.out.trans (cur_below hg2 hcb (by have := HB1.out.size; omega)))
  have c1 := cell_of_row _ _ 1 _ _ _ h2.cells
  simp only [List.getElem?_toArray, List.getElem?_cons_zero, List.getElem?_cons_succ] at c1
  have HC2 := Lib.hid hc2; have H2 := Lib.hid h2
  clear z0 z1 f0 f1 k0 hg2 hc2
  have hlook := h2.map.look_none (t := 76) (e := 3) true wlaw Try.underlying76 (zeroInt w2) (wkey hkz) (by rw [placeF_str, HO.out.2]; rfl)
  clear h2
  go_wp2_with fail
  refine (HOF.out w2).mono ?_; rintro e w3 hl
  rcases hl with ⟨L, A2, c2, hoL, rfl, -, -, hrow2, hb3⟩ | ⟨hoL, rfl, hb3⟩
  · have HC3 : Hid (CurAt cb s2 b2 w3) := Lib.hid (heap_keep HC2.out hb3)
    have h3 := H2.out.later hb3
    have HAD := Lib.hid (add_any h3 hK k hkz HO.out.2)
    have HR3 := Lib.hid (HR2.out.trans (RKeeps.below (mb := mb) hb3))
    have HB3 : Hid (Below base w w3) := Lib.hid (HB2.out.trans (hb3.mono (by have := HB2.out.size; omega)))
    have HNE : Hid (cb ≠ mb) := Lib.hid (h3.cne HC3.out)
    clear hb3 hrow2 hlook c1 h3
    go_wp2_with fail
    refine HAD.out.mono ?_; rintro e w4 ⟨rfl, v4, h4, hk4, hb4⟩
    have hkl : (K ++ [k]).length = K.length + 1 := by simp
    have HC4 : Hid (CurAt cb s2 b2 w4) := Lib.hid (hk4.cur HC3.out HNE.out)
    have HR4 := Lib.hid (HR3.out.trans (RKeeps.names hk4))
    have HB4 : Hid (Below base w w4) := Lib.hid (HB3.out.trans hb4)
    obtain ⟨A4, c4, rfl, -, -, -, hrow4⟩ := own_row h4.keys
    have k4 := cell_of_row _ _ 0 _ _ _ h4.cells
    simp only [List.getElem?_toArray, List.getElem?_cons_zero] at k4
    rw [hkl] at k4
    obtain ⟨ad, rfl, x0, -⟩ := hrow4.at_ (Below.refl _ _) (i := K.length) (by omega)
    have x1 : w4.cell? (ad.add K.length) = some (.string k) := by have := x0 (by decide); rw [Nat.mul_one] at this; rw [this]; unfold kx; rw [List.getD_eq_getElem?_getD]; simp
    have H4 := Lib.hid h4
    obtain ⟨z0, z1, f0, f1⟩ := HC4.out.cells
    clear hk4 hb4 x0 hrow4 h4
    have j0 : (0 : Int) ≤ ((K.length + 1 : Nat) : Int) := Int.natCast_nonneg _
    have j1 : (K.length : Int) < ((K.length + 1 : Nat) : Int) := by omega
    have u2 : IntKind.u64.wrap ((K.length + 1 : Nat) : Int) = ((K.length + 1 : Nat) : Int) := by rw [IntKind.wrap_u64]; omega
    have e2 : decide (((K.length + 1 : Nat) : Int) ≤ (K.length : Int)) = false := decide_eq_false (by omega)
    have e3 : decide (K.length + 1 ≤ K.length) = false := decide_eq_false (by omega)
    cases b2
    · go_wp2_with fail
      refine (HOF.out w4).mono ?_; rintro e w5 hl
      rcases hl with ⟨L5, A5, c5, ho5, rfl, -, -, hrow5, hb5⟩ | ⟨ho5, rfl, hb5⟩
      · have HB5 : Hid (Below base w w5) := Lib.hid (HB4.out.trans (hb5.mono (by have := HB4.out.size; omega)))
        have HRES : Hid (Wa.unkey k = L5) := Lib.hid (by unfold Wa.unkey; rw [ho5]; rfl)
        have HROW := Lib.hid hrow5; have HBB := Lib.hid hb5
        clear hrow5 hb5
        go_wp2_with fail
        go_ret
        have hfin := HRD.out
        rw [if_neg (by simp), HRES.out] at hfin
        rw [hfin]
        exact ⟨A5, c5, _, rfl, ⟨HROW.out.1, own_from HROW.out.2 (by have := HB4.out.size; omega)⟩, H4.out.later HBB.out, heap_keep HC4.out HBB.out, HR4.out.trans (RKeeps.below HBB.out), HB5.out⟩
      · rw [hoL] at ho5; cases ho5
    · go_wp2_with fail
      go_ret
      have hfin := HRD.out
      rw [if_pos trivial] at hfin
      rw [hfin]
      have hg5 := grown_setCell w4 cb 1 (.bool true)
      exact ⟨none, 0, _, rfl, ⟨fun h0 => absurd h0 (by simp), World.ownsRow_nil _ _ _ _⟩, H4.out.cur HC4.out hg5, HC4.out.putBad true, HR4.out.trans (RKeeps.cur HC4.out hg5), HB4.out.setCell hcb _⟩
  · exfalso
    have := HO.out.1
    rw [hoL] at this
    cases this
/-- the labels that a series told -/
theorem readSeries_any {w : World} {base nb mb cb : Nat} {v : Value} {K : List ByteArray} (h : NamesIn w base nb mb v K) (hK : K.length ≤ 900000) (hks : ∀ k ∈ K, k.size ≤ maxLen) (c : Wa.Cu) (hs : c.s.size ≤ maxLen) (hc : CurAt cb c.s c.bad w) (hcb : base ≤ cb) :
    Calls Try.prog 93 #[.pointer (some ⟨nb, 0, none⟩), .pointer (some ⟨cb, 0, none⟩)] w (RdSer w base nb mb cb K c) := by
  cases hb : c.small.2.bad with
  | true => exact readSeries_bad h c hs hc hcb hb
  | false =>
    by_cases h1 : c.small.1 < K.length
    · exact readSeries_in h hK hks c hs hc hcb hb h1
    by_cases h2 : K.length < c.small.1
    · exact readSeries_out h hK c hs hc hcb hb h2
    have h3 : c.small.1 = K.length := by omega
    by_cases h4 : (La.of (c.small.2.text c.small.2.s.size).1).isNone = true ∨ (Wa.place K (c.small.2.text c.small.2.s.size).1).isSome = true
    · exact readSeries_no h hK c hs hc hcb hb h3 h4
    · refine readSeries_new h hK c hs hc hcb hb h3 ⟨?_, ?_⟩
      · cases h5 : (La.of (c.small.2.text c.small.2.s.size).1).isNone with
        | false => rfl
        | true => exact absurd (Or.inl h5) h4
      · cases h5 : Wa.place K (c.small.2.text c.small.2.s.size).1 with
        | none => rfl
        | some i => exact absurd (Or.inr (by rw [h5]; rfl)) h4
end Go.Proofs.Ytaillfnmaiiapaa
/-
  The keys that were told.
-/
namespace Go.Proofs.Ytaillfnmaiiapaa
open Go.RowKit
set_option maxRecDepth 100000 in
theorem known_any {w : World} {base nb mb : Nat} {v : Value} {K : List ByteArray} (h : NamesIn w base nb mb v K) :
    Calls Try.prog 58 #[.pointer (some ⟨nb, 0, none⟩)] w fun e w' => e = .returned v ∧ w' = w := by
  obtain ⟨A, c, rfl, -⟩ := own_row h.keys
  have c0 := cell_of_row _ _ 0 _ _ _ h.cells
  simp only [List.getElem?_toArray, List.getElem?_cons_zero] at c0
  clear h
  go_enter Try.func58, Try.ntmps58
  go_wp2_with fail
  go_ret
  exact ⟨rfl, rfl⟩
end Go.Proofs.Ytaillfnmaiiapaa
