import Derived.Test.YtaillfnmaiiapaaWaV
/-
  A change that was told is read: what goes on meanwhile.
-/
namespace Go.Proofs.Ytaillfnmaiiapaa
open Go.RowKit
theorem Wa.small_lt (c : Wa.Cu) : c.small.1 < 18446744073709551616 := by
  unfold Wa.Cu.small
  rw [Wa.go_val]
  split
  · decide
  · exact Num.decp_lt _ 0 0 (by decide) (by decide)
theorem Wa.small_size (c : Wa.Cu) : c.small.2.s.size ≤ c.s.size := Wa.go_size _ _ _ _ _
theorem Wa.rdSer_size (K : List ByteArray) (c : Wa.Cu) : (Wa.rdSer K c).2.2.s.size ≤ c.s.size := by
  have h1 := Wa.small_size c
  have h2 : (c.small.2.text c.small.2.s.size).2.s.size ≤ c.small.2.s.size := Wa.go_size _ _ _ _ _
  unfold Wa.rdSer
  split
  · split
    · show (c.small.2.text _).2.s.size ≤ _; omega
    · split
      · show (c.small.2.text _).2.s.size ≤ _; omega
      · show (c.small.2.text _).2.s.size ≤ _; omega
  · split
    · show c.small.2.s.size ≤ _; omega
    · show c.small.2.s.size ≤ _; omega
theorem Wa.unkey_small (k : ByteArray) : (Wa.unkey k).length ≤ 6 ∧ ∀ i, i < (Wa.unkey k).length → (La.at_ (Wa.unkey k) i).1.size ≤ 300 ∧ (La.at_ (Wa.unkey k) i).2.size ≤ 300 := by
  unfold Wa.unkey
  cases h : La.of k with
  | none => exact ⟨Nat.zero_le _, fun i hi => absurd hi (Nat.not_lt_zero i)⟩
  | some l =>
    exact La.right_sizes l (La.of_key h).1
theorem Wa.rdSer_small (K : List ByteArray) (c : Wa.Cu) : (Wa.rdSer K c).1.length ≤ 6 ∧ ∀ i, i < (Wa.rdSer K c).1.length → (La.at_ (Wa.rdSer K c).1 i).1.size ≤ 300 ∧ (La.at_ (Wa.rdSer K c).1 i).2.size ≤ 300 := by
  have hn : ([] : List Lab).length ≤ 6 ∧ ∀ i, i < ([] : List Lab).length → (La.at_ [] i).1.size ≤ 300 ∧ (La.at_ [] i).2.size ≤ 300 := ⟨Nat.zero_le _, fun i hi => absurd hi (Nat.not_lt_zero i)⟩
  unfold Wa.rdSer
  split
  · split
    · exact hn
    · split
      · exact hn
      · exact Wa.unkey_small _
  · split
    · exact hn
    · exact Wa.unkey_small _
/-- what a state's blocks are: they stay -/
def KeepI (U V : World) : Prop := ∀ (g : Nat) (cs : Array Value) (T : TypeId), U.heap[g]? = some (.cells cs T (0, 0)) → (T = 2 ∨ T = 50 ∨ T = 137) → V.heap[g]? = some (.cells cs T (0, 0))
theorem KeepI.below {U V : World} (hb : Below U.heap.size U V) : KeepI U V := fun _ _ _ hc _ => heap_keep hc hb
theorem KeepI.grown {U V : World} {g0 : Nat} {cs0 : Array Value} {T0 : TypeId} {fr0 : Nat × Nat} (hc : U.heap[g0]? = some (.cells cs0 T0 fr0)) (hT : T0 ≠ 2 ∧ T0 ≠ 50 ∧ T0 ≠ 137) (hg : U.grownBy V (some g0)) : KeepI U V := fun g cs T h hTT =>
  grown_keep h hg (by
    rintro rfl
    rw [h] at hc
    cases hc
    rcases hTT with e | e | e
    · exact hT.1 e
    · exact hT.2.1 e
    · exact hT.2.2 e)
theorem KeepI.rk {mb : Nat} {U V : World} (hk : RKeeps mb U V) (hm : ∀ e cs fr, U.heap[mb]? ≠ some (.cells cs e fr)) : KeepI U V := fun g cs T h hT => hk g _ h (by rintro rfl; exact hm _ _ _ h) (fun cs2 T2 fr e => by
  cases e
  rcases hT with e | e | e <;> subst e <;> exact ⟨by decide, by decide, by decide⟩)
/-- all but what was told, cursors, and what W says, stays -/
def NKW (mb : Nat) (W : Nat → Prop) (w V : World) : Prop := ∀ (g : Nat) (o : Obj), w.heap[g]? = some o → g ≠ mb → ¬ W g → (∀ cs T fr, o = Obj.cells cs T fr → T ≠ 78 ∧ T ≠ 9 ∧ T ≠ 131) → V.heap[g]? = some o
theorem NKW.trans {mb : Nat} {W : Nat → Prop} {w U V : World} (h : NKW mb W w U) (h2 : NKW mb W U V) : NKW mb W w V := fun g o ho h1 h3 hn => h2 g o (h g o ho h1 h3 hn) h1 h3 hn
theorem NKW.rk {mb : Nat} {W : Nat → Prop} {w U : World} (h : RKeeps mb w U) : NKW mb W w U := fun g o ho h1 _ hn => h g o ho h1 hn
theorem NKW.below {mb : Nat} {W : Nat → Prop} {w U : World} (hb : Below w.heap.size w U) : NKW mb W w U := fun _ _ ho _ _ _ => heap_keep ho hb
/-- a sample's reading: what it leaves -/
def FW (base cb : Nat) (W : Nat → Prop) (U V : World) : Prop := Below base U V ∧ ∀ g, g < U.heap.size → g ≠ cb → ¬ W g → V.heap[g]? = U.heap[g]?
/-- what is asked of samples' reading -/
structure Smp (base cb : Nat) (W : Nat → Prop) (I : Int → Nat → World → Prop) (two : Bool) (F : FuncId) (cap : Array Value) (m : Nat) : Prop where
  enter : ∀ args U, (callFunc F args).run Try.prog U = .ok (.enter F args) U
  keep : ∀ t v U V, I t v U → KeepI U V → I t v V
  own : ∀ t v U, I t v U → ∀ g, W g → base ≤ g ∧ ∃ cs T, U.heap[g]? = some (.cells cs T (0, 0)) ∧ (T = 2 ∨ T = 50)
  does : ∀ t v U (c : Wa.Cu), v < 18446744073709551616 → CurAt cb c.s c.bad U → c.s.size ≤ m → I t v U → base ≤ U.heap.size → Calls Try.prog F cap U fun e V => e = .returned (.tuple #[.int .i64 (Wa.rdSmp two t v c).1, .int .u64 (((Wa.rdSmp two t v c).2.1 : Nat) : Int)]) ∧ CurAt cb (Wa.rdSmp two t v c).2.2.s (Wa.rdSmp two t v c).2.2.bad V ∧ I (Wa.rdSmp two t v c).1 (Wa.rdSmp two t v c).2.1 V ∧ FW base cb W U V
/-- at work -/
structure RdAt (w : World) (base nb mb cb : Nat) (W : Nat → Prop) (I : Int → Nat → World → Prop) (K : List ByteArray) (c : Wa.Cu) (t : Int) (v : Nat) (U : World) : Prop where
  nam : ∃ v', NamesIn U base nb mb v' K
  cur : CurAt cb c.s c.bad U
  st : I t v U
  nk : NKW mb W w U
  bel : Below base w U
  cbl : base ≤ cb
  bs : base ≤ w.heap.size
section
variable {w : World} {base nb mb cb : Nat} {W : Nat → Prop} {I : Int → Nat → World → Prop} {two : Bool} {F : FuncId} {cap : Array Value} {m : Nat} {K : List ByteArray} {c : Wa.Cu} {t : Int} {v : Nat} {U V : World}
theorem RdAt.mc (h : RdAt w base nb mb cb W I K c t v U) : ∀ e cs fr, U.heap[mb]? ≠ some (.cells cs e fr) := by
  obtain ⟨v', hn⟩ := h.nam
  exact hn.mcells
theorem RdAt.size (h : RdAt w base nb mb cb W I K c t v U) : base ≤ U.heap.size := Nat.le_trans h.bs h.bel.size
theorem RdAt.later (hs : Smp base cb W I two F cap m) (h : RdAt w base nb mb cb W I K c t v U) (hb : Below U.heap.size U V) : RdAt w base nb mb cb W I K c t v V := by
  obtain ⟨v', hn⟩ := h.nam
  exact ⟨⟨v', hn.later hb⟩, heap_keep h.cur hb, hs.keep _ _ _ _ h.st (KeepI.below hb), h.nk.trans (NKW.below hb), h.bel.trans (hb.mono h.size), h.cbl, h.bs⟩
/-- a call of the cursor -/
theorem RdAt.cur_ (hs : Smp base cb W I two F cap m) (h : RdAt w base nb mb cb W I K c t v U) {c2 : Wa.Cu} (hc : CurAt cb c2.s c2.bad V) (hg : U.grownBy V (some cb)) : RdAt w base nb mb cb W I K c2 t v V := by
  obtain ⟨v', hn⟩ := h.nam
  have h1 := h.cur
  exact ⟨⟨v', hn.cur h1 hg⟩, hc, hs.keep _ _ _ _ h.st (KeepI.grown h1 (by decide) hg), h.nk.trans (NKW.rk (RKeeps.cur h1 hg)), h.bel.trans (cur_below hg h.cbl h.size), h.cbl, h.bs⟩
/-- a series was read -/
theorem RdAt.ser (hs : Smp base cb W I two F cap m) (h : RdAt w base nb mb cb W I K c t v U) {K2 : List ByteArray} {c2 : Wa.Cu} {v' : Value} (hn : NamesIn V base nb mb v' K2) (hc : CurAt cb c2.s c2.bad V) (hk : RKeeps mb U V) (hb : Below base U V) : RdAt w base nb mb cb W I K2 c2 t v V :=
  ⟨⟨v', hn⟩, hc, hs.keep _ _ _ _ h.st (KeepI.rk hk h.mc), h.nk.trans (NKW.rk hk), h.bel.trans hb, h.cbl, h.bs⟩
/-- a block of the call's own is written -/
theorem RdAt.put (hs : Smp base cb W I two F cap m) (h : RdAt w base nb mb cb W I K c t v U) {g : Nat} {cs : Array Value} (hc : U.heap[g]? = some (.cells cs 52 (0, 0))) (hw : w.heap.size ≤ g) (hg : U.grownBy V (some g)) : RdAt w base nb mb cb W I K c t v V := by
  obtain ⟨v', hn⟩ := h.nam
  have h1 := h.cur
  have hbs := h.bs
  refine ⟨⟨v', hn.grown hc ⟨by decide, by decide⟩ hg⟩, grown_keep h1 hg (by rintro rfl; unfold CurAt at h1; rw [h1] at hc; cases hc), hs.keep _ _ _ _ h.st (KeepI.grown hc (by decide) hg), ?_, h.bel.grown hg h.size (fun r e => by obtain rfl : g = r := Option.some.inj e; omega), h.cbl, h.bs⟩
  intro k o hk h2 h3 h4
  have hlt := (Array.getElem?_eq_some_iff.1 hk).1
  exact grown_keep (h.nk k o hk h2 h3 h4) hg (by omega)
theorem cells_ne {U : World} {g k : Nat} {cs cs2 : Array Value} {T T2 : TypeId} {fr fr2 : Nat × Nat} (h : U.heap[g]? = some (.cells cs T fr)) (h2 : U.heap[k]? = some (.cells cs2 T2 fr2)) (hT : T ≠ T2) : g ≠ k := by
  rintro rfl
  rw [h] at h2
  cases h2
  exact hT rfl
/-- a block that a sample's reading leaves -/
theorem Smp.stays (hs : Smp base cb W I two F cap m) (h : RdAt w base nb mb cb W I K c t v U) (hf : FW base cb W U V) {g : Nat} {cs : Array Value} {T : TypeId} {fr : Nat × Nat} (hc : U.heap[g]? = some (.cells cs T fr)) (hT : T ≠ 2 ∧ T ≠ 50 ∧ T ≠ 131) : V.heap[g]? = some (.cells cs T fr) := by
  refine (hf.2 g (Array.getElem?_eq_some_iff.1 hc).1 (cells_ne hc h.cur hT.2.2) (fun hw => ?_)).trans hc
  obtain ⟨-, cs2, T2, h2, h3⟩ := hs.own _ _ _ h.st g hw
  rw [hc] at h2
  cases h2
  rcases h3 with e | e
  · exact hT.1 e
  · exact hT.2.1 e
theorem Smp.own_stays (hs : Smp base cb W I two F cap m) (h : RdAt w base nb mb cb W I K c t v U) (hf : FW base cb W U V) {b e k n : Nat} {x : Value} {xs : List Value} (ho : U.ownsRow b e k x n xs) (hT : e ≠ 2 ∧ e ≠ 50 ∧ e ≠ 131) : V.ownsRow b e k x n xs := by
  refine ⟨ho.1, ?_⟩
  rcases ho.2 with h0 | ⟨g, cap2, cur, rfl, hb, hc, hx⟩
  · exact Or.inl h0
  · exact Or.inr ⟨g, cap2, cur, rfl, hb, hs.stays h hf hc hT, hx⟩
/-- a sample was read -/
theorem RdAt.smp (hs : Smp base cb W I two F cap m) (h : RdAt w base nb mb cb W I K c t v U) {c2 : Wa.Cu} {t2 : Int} {v2 : Nat} (hc : CurAt cb c2.s c2.bad V) (hi : I t2 v2 V) (hf : FW base cb W U V) : RdAt w base nb mb cb W I K c2 t2 v2 V := by
  obtain ⟨v', hn⟩ := h.nam
  refine ⟨⟨v', hs.stays h hf hn.cells (by decide), hs.own_stays h hf hn.keys (by decide), ?_, hn.nlo, hn.mlo⟩, hc, hi, h.nk.trans ?_, h.bel.trans hf.1, h.cbl, h.bs⟩
  · refine hn.map.same (hf.2 mb ?_ ?_ (fun hw => ?_))
    · obtain ⟨es, clock, hb, -⟩ := hn.map
      exact (Array.getElem?_eq_some_iff.1 hb).1
    · rintro rfl
      exact hn.mcells _ _ _ h.cur
    · obtain ⟨-, cs2, T2, h2, h3⟩ := hs.own _ _ _ h.st mb hw
      exact hn.mcells _ _ _ h2
  · intro g o hg h1 h2 h3
    refine (hf.2 g (Array.getElem?_eq_some_iff.1 hg).1 ?_ h2).trans hg
    rintro rfl
    have hc2 := h.cur
    unfold CurAt at hc2
    rw [hc2] at hg
    exact (h3 _ _ _ (Option.some.inj hg).symm).2.2 rfl
end
/-- what reading a change comes to -/
def ReadEnd (w : World) (base nb mb cb : Nat) (W : Nat → Prop) (I : Int → Nat → World → Prop) (D : Wa.Rec × List ByteArray × Wa.Cu) (t : Int) (v : Nat) (e : Ending) (V : World) : Prop :=
  ∃ A cc, e = .returned (.agg (recC D.1 A cc)) ∧ V.ownsRow base 54 2 (.slice A D.1.l.length cc) D.1.l.length (labCells D.1.l) ∧ RdAt w base nb mb cb W I D.2.1 D.2.2 t v V
end Go.Proofs.Ytaillfnmaiiapaa
/-
  A change that was told is read: the walk.
-/
namespace Go.Proofs.Ytaillfnmaiiapaa
open Go.RowKit
/-- what read holds on to -/
structure ReadB (b3 ob rb nb : Nat) (x0 x1 x2 x3 x4 : Value) (U : World) : Prop where
  f : U.heap[b3]? = some (.cells #[.pointer (some ⟨nb, 0, none⟩)] 81 (0, 0))
  o : U.heap[ob]? = some (.cells #[.int .i64 0, .slice none 0 0, .int .i64 0, .int .i64 0, .int .u64 0] 52 (0, 0))
  r : U.heap[rb]? = some (.cells #[x0, x1, x2, x3, x4] 52 (0, 0))
  ne : ob ≠ rb
section
variable {w : World} {base nb mb cb : Nat} {W : Nat → Prop} {I : Int → Nat → World → Prop} {two : Bool} {F : FuncId} {cap : Array Value} {m : Nat} {K : List ByteArray} {c : Wa.Cu} {t : Int} {v : Nat} {U V : World} {b3 ob rb : Nat} {x0 x1 x2 x3 x4 : Value}
theorem ReadB.later (h : ReadB b3 ob rb nb x0 x1 x2 x3 x4 U) (hb : Below U.heap.size U V) : ReadB b3 ob rb nb x0 x1 x2 x3 x4 V := ⟨heap_keep h.f hb, heap_keep h.o hb, heap_keep h.r hb, h.ne⟩
theorem ReadB.cur_ (h : ReadB b3 ob rb nb x0 x1 x2 x3 x4 U) {s : ByteArray} {bad : Bool} (hc : CurAt cb s bad U) (hg : U.grownBy V (some cb)) : ReadB b3 ob rb nb x0 x1 x2 x3 x4 V :=
  ⟨grown_keep h.f hg (cells_ne h.f hc (by decide)), grown_keep h.o hg (cells_ne h.o hc (by decide)), grown_keep h.r hg (cells_ne h.r hc (by decide)), h.ne⟩
theorem ReadB.ser (h : ReadB b3 ob rb nb x0 x1 x2 x3 x4 U) (hk : RKeeps mb U V) (hm : ∀ e cs fr, U.heap[mb]? ≠ some (.cells cs e fr)) : ReadB b3 ob rb nb x0 x1 x2 x3 x4 V :=
  ⟨hk _ _ h.f (by rintro rfl; exact hm _ _ _ h.f) (fun cs T fr e => by cases e; exact ⟨by decide, by decide, by decide⟩), hk _ _ h.o (by rintro rfl; exact hm _ _ _ h.o) (fun cs T fr e => by cases e; exact ⟨by decide, by decide, by decide⟩), hk _ _ h.r (by rintro rfl; exact hm _ _ _ h.r) (fun cs T fr e => by cases e; exact ⟨by decide, by decide, by decide⟩), h.ne⟩
theorem ReadB.smp (h : ReadB b3 ob rb nb x0 x1 x2 x3 x4 U) (hs : Smp base cb W I two F cap m) (hr : RdAt w base nb mb cb W I K c t v U) (hf : FW base cb W U V) : ReadB b3 ob rb nb x0 x1 x2 x3 x4 V :=
  ⟨hs.stays hr hf h.f (by decide), hs.stays hr hf h.o (by decide), hs.stays hr hf h.r (by decide), h.ne⟩
end
theorem store24 {w : World} {b : Nat} {a0 a1 a2 a3 a4 : Value} {T : TypeId} (h : w.heap[b]? = some (.cells #[a0, a1, a2, a3, a4] T (0, 0))) (v2 v4 : Value) :
    ((w.setCell ⟨b, 2, none⟩ v2).setCell ⟨b, 4, none⟩ v4).heap[b]? = some (.cells #[a0, a1, v2, a3, v4] T (0, 0)) ∧ w.grownBy ((w.setCell ⟨b, 2, none⟩ v2).setCell ⟨b, 4, none⟩ v4) (some b) := by
  have h0 := heap_setCell_same w b 2 _ _ v2 h
  have h1 := heap_setCell_same _ b 4 _ _ v4 h0
  exact ⟨h1, grown_trans (grown_setCell w b 2 v2) (grown_setCell _ b 4 v4)⟩
theorem store23 {w : World} {b : Nat} {a0 a1 a2 a3 a4 : Value} {T : TypeId} (h : w.heap[b]? = some (.cells #[a0, a1, a2, a3, a4] T (0, 0))) (v2 v3 : Value) :
    ((w.setCell ⟨b, 2, none⟩ v2).setCell ⟨b, 3, none⟩ v3).heap[b]? = some (.cells #[a0, a1, v2, v3, a4] T (0, 0)) ∧ w.grownBy ((w.setCell ⟨b, 2, none⟩ v2).setCell ⟨b, 3, none⟩ v3) (some b) := by
  have h0 := heap_setCell_same w b 2 _ _ v2 h
  have h1 := heap_setCell_same _ b 3 _ _ v3 h0
  exact ⟨h1, grown_trans (grown_setCell w b 2 v2) (grown_setCell _ b 3 v3)⟩
set_option maxRecDepth 100000 in
set_option maxHeartbeats 2000000 in
theorem read_0 {w : World} {base nb mb cb : Nat} {W : Nat → Prop} {I : Int → Nat → World → Prop} {two : Bool} {F : FuncId} {cap : Array Value} {m : Nat} {K : List ByteArray} {c : Wa.Cu} {t : Int} {v : Nat} (hs : Smp base cb W I two F cap m) (h : RdAt w base nb mb cb W I K c t v w) (hK : K.length ≤ 900000) (hks : ∀ k ∈ K, k.size ≤ maxLen) (hm : m ≤ 1000000000) (hcs : c.s.size ≤ m) (hv : v < 18446744073709551616) (hk : Wa.i64 c.small.1 = 0) :
    Calls Try.prog 85 #[.agg #[.pointer (some ⟨nb, 0, none⟩)], .pointer (some ⟨cb, 0, none⟩), .func (.func F) #[] cap] w (ReadEnd w base nb mb cb W I (Wa.rd two K t v c) (Wa.rdSmp two t v (Wa.rdSer K c.small.2).2.2).1 (Wa.rdSmp two t v (Wa.rdSer K c.small.2).2.2).2.1) := by
  have hrd : Wa.rd two K t v c = (⟨0, (Wa.rdSer K c.small.2).1, (Wa.rdSmp two t v (Wa.rdSer K c.small.2).2.2).1, 0, (Wa.rdSmp two t v (Wa.rdSer K c.small.2).2.2).2.1⟩, (Wa.rdSer K c.small.2).2.1, (Wa.rdSmp two t v (Wa.rdSer K c.small.2).2.2).2.2) := by unfold Wa.rd; rw [if_pos hk]
  rw [hrd]
  clear hrd
  have HS := Lib.hid hs; have H := Lib.hid h
  have HC := Lib.hid (cuSmall cb c (by unfold maxLen; omega) · ·)
  have z1 := Wa.small_size c
  have z2 := Wa.rdSer_size K c.small.2
  have HRS := Lib.hid (fun U (v' : Value) (hn : NamesIn U base nb mb v' K) hc => readSeries_any hn hK hks c.small.2 (by unfold maxLen; omega) hc h.cbl)
  unfold RdSer at HRS
  have he := hs.enter
  have hsm := Wa.rdSer_small K c.small.2
  obtain ⟨p, hp⟩ : ∃ p, p = c.small := ⟨_, rfl⟩
  rw [← hp] at hk z1 z2 HRS HC hsm ⊢
  clear hp
  obtain ⟨n, c1⟩ := p
  simp only at hk z1 z2 HRS HC hsm ⊢
  obtain ⟨D, hD⟩ : ∃ D, D = Wa.rdSer K c1 := ⟨_, rfl⟩
  rw [← hD] at z2 HRS hsm ⊢
  clear hD
  obtain ⟨L, K2, c2⟩ := D
  simp only at z2 HRS hsm ⊢
  have HSM := Lib.hid (fun U (hi : I t v U) hc hb => hs.does t v U c2 hv hc (by omega) hi hb)
  obtain ⟨E, hE⟩ : ∃ E, E = Wa.rdSmp two t v c2 := ⟨_, rfl⟩
  rw [← hE] at HSM ⊢
  clear hE
  obtain ⟨t2, v2, c3⟩ := E
  simp only at HSM ⊢
  have hkk : IntKind.i64.wrap (n : Int) = 0 := hk
  clear h hs hk hsm z1 z2 hks
  go_enter Try.func85, Try.ntmps85
  go_wp2_with fail
  obtain ⟨wa, hwa⟩ : ∃ wa, wa = (w.alloc (.cells #[.pointer (some ⟨nb, 0, none⟩)] 81)).alloc (.cells #[.int .i64 0, .slice none 0 0, .int .i64 0, .int .i64 0, .int .u64 0] 52) := ⟨_, rfl⟩
  have hba : Below w.heap.size w wa := by rw [hwa]; exact ((Below.refl _ _).alloc (Nat.le_refl _) _).alloc (by simp) _
  have hx3 : wa.heap[w.heap.size]? = some (.cells #[.pointer (some ⟨nb, 0, none⟩)] 81 (0, 0)) := by rw [hwa]; exact heap_alloc2_old w _ _
  have hxo : wa.heap[w.heap.size + 1]? = some (.cells #[.int .i64 0, .slice none 0 0, .int .i64 0, .int .i64 0, .int .u64 0] 52 (0, 0)) := by rw [hwa]; exact heap_alloc2_new w _ _
  rw [← hwa]
  obtain ⟨ob, hob⟩ : ∃ ob, ob = w.heap.size + 1 := ⟨_, rfl⟩
  obtain ⟨b3, hb3⟩ : ∃ b3, b3 = w.heap.size := ⟨_, rfl⟩
  rw [← hob] at hxo ⊢
  rw [← hb3] at hx3 ⊢
  have HOB : Hid (w.heap.size ≤ ob) := Lib.hid (by omega)
  have HA := Lib.hid (H.out.later HS.out hba)
  have HX3 := Lib.hid hx3; have HXO := Lib.hid hxo
  clear hwa hba hx3 hxo hob hb3
  refine (HC.out wa HA.out.cur).mono ?_; rintro e w1 ⟨rfl, hc1, hg1⟩
  have HR1 := Lib.hid (HA.out.cur_ HS.out hc1 hg1)
  have hx3 := grown_keep HX3.out hg1 (cells_ne HX3.out HA.out.cur (by decide)); have hxo := grown_keep HXO.out hg1 (cells_ne HXO.out HA.out.cur (by decide))
  have HBW : Hid (w.heap.size ≤ w1.heap.size) := Lib.hid HR1.out.bel.size
  obtain ⟨w2, hw2⟩ : ∃ w2, w2 = w1.alloc (.cells #[.int .i64 0, .slice none 0 0, .int .i64 0, .int .i64 0, .int .u64 0] 52) := ⟨_, rfl⟩
  have hb2 : Below w1.heap.size w1 w2 := by rw [hw2]; exact (Below.refl _ _).alloc (Nat.le_refl _) _
  have hxr : w2.heap[w1.heap.size]? = some (.cells #[.int .i64 0, .slice none 0 0, .int .i64 0, .int .i64 0, .int .u64 0] 52 (0, 0)) := by rw [hw2]; exact heap_alloc_new w1 _
  have HR2 := Lib.hid (HR1.out.later HS.out hb2)
  have hlt := (Array.getElem?_eq_some_iff.1 hxo).1
  have HRB : Hid (ReadB b3 ob w1.heap.size nb (.int .i64 0) (.slice none 0 0) (.int .i64 0) (.int .i64 0) (.int .u64 0) w2) := Lib.hid ⟨heap_keep hx3 hb2, heap_keep hxo hb2, hxr, by omega⟩
  have q0 := cell_of_row _ _ 0 _ _ _ hxr
  have q3 := cell_of_row _ _ 0 _ _ _ HRB.out.f
  simp only [List.getElem?_toArray, List.getElem?_cons_zero] at q0 q3
  clear hx3 hxo hc1 hg1 hb2 hxr hlt HC HA HX3 HXO
  go_upto_region 2 with fail
  rw [← hw2]
  obtain ⟨rb, hrb⟩ : ∃ rb, rb = w1.heap.size := ⟨_, rfl⟩
  rw [← hrb] at HRB HBW q0 ⊢
  clear hw2 hrb
  obtain ⟨vn2, hn2⟩ := HR2.out.nam
  have HRS2 := Lib.hid (HRS.out w2 vn2 hn2 HR2.out.cur)
  clear hn2 HRS
  go_wp2_with fail
  refine HRS2.out.mono ?_; rintro e w3 ⟨A3, k3, vn3, rfl, hlab3, hn3, hc3, hk3, hb3⟩
  have HRB3 := Lib.hid (HRB.out.ser hk3 HR2.out.mc)
  have HR3 := Lib.hid (HR2.out.ser HS.out hn3 hc3 hk3 hb3)
  have HL3 := Lib.hid hlab3.2
  clear hlab3 hn3 hc3 hk3 hb3 HRS2 q0 q3
  have r1 := cell_of_row _ _ 1 _ _ _ HRB3.out.r; have g1 := frozen_of_row _ _ 1 _ _ HRB3.out.r
  simp only [List.getElem?_toArray, List.getElem?_cons_zero, List.getElem?_cons_succ] at r1
  have hgs := grown_setCell w3 rb 1 (.slice A3 L.length k3)
  have HR4 := Lib.hid (HR3.out.put HS.out HRB3.out.r HBW.out hgs)
  have HL4 := Lib.hid (row_kept HL3.out hgs (own_lt HL3.out HRB3.out.r (by decide)))
  have HRB4 : Hid (ReadB b3 ob rb nb (.int .i64 0) (.slice A3 L.length k3) (.int .i64 0) (.int .i64 0) (.int .u64 0) (w3.setCell ⟨rb, 1, none⟩ (.slice A3 L.length k3))) := Lib.hid ⟨grown_keep HRB3.out.f hgs (cells_ne HRB3.out.f HRB3.out.r (by decide)), grown_keep HRB3.out.o hgs HRB3.out.ne, heap_setCell_same w3 rb 1 _ _ _ HRB3.out.r, HRB3.out.ne⟩
  obtain ⟨w4, hw4⟩ : ∃ w4, w4 = w3.setCell ⟨rb, 1, none⟩ (.slice A3 L.length k3) := ⟨_, rfl⟩
  rw [← hw4] at HR4 HL4 HRB4
  have HSM4 := Lib.hid (HSM.out w4 HR4.out.st HR4.out.cur HR4.out.size)
  clear hgs HR3 HL3 HRB3 HSM
  go_upto_region 6 with fail
  rw [← hw4]
  clear hw4 r1 g1
  go_wp2_with fail
  refine HSM4.out.mono ?_; rintro e w5 ⟨rfl, hc5, hi5, hf5⟩
  have HRB5 := Lib.hid (HRB4.out.smp HS.out HR4.out hf5)
  have HL5 := Lib.hid (HS.out.own_stays HR4.out hf5 HL4.out (by decide))
  have HR5 := Lib.hid (HR4.out.smp HS.out hc5 hi5 hf5)
  clear hc5 hi5 hf5 HR4 HL4 HRB4 HSM4
  have r2 := cell_of_row _ _ 2 _ _ _ HRB5.out.r; have g2 := frozen_of_row _ _ 2 _ _ HRB5.out.r
  have r4 := cell_of_row _ _ 4 _ _ _ HRB5.out.r; have g4 := frozen_of_row _ _ 4 _ _ HRB5.out.r
  simp only [List.getElem?_toArray, List.getElem?_cons_zero, List.getElem?_cons_succ] at r2 r4
  obtain ⟨hr6, hg6⟩ := store24 HRB5.out.r (.int .i64 t2) (.int .u64 (v2 : Int))
  have HR6 := Lib.hid (HR5.out.put HS.out HRB5.out.r HBW.out hg6)
  have HL6 := Lib.hid (row_kept HL5.out hg6 (own_lt HL5.out HRB5.out.r (by decide)))
  have HRB6 : Hid (ReadB b3 ob rb nb (.int .i64 0) (.slice A3 L.length k3) (.int .i64 t2) (.int .i64 0) (.int .u64 (v2 : Int)) ((w5.setCell ⟨rb, 2, none⟩ (.int .i64 t2)).setCell ⟨rb, 4, none⟩ (.int .u64 (v2 : Int)))) := Lib.hid ⟨grown_keep HRB5.out.f hg6 (cells_ne HRB5.out.f HRB5.out.r (by decide)), grown_keep HRB5.out.o hg6 HRB5.out.ne, hr6, HRB5.out.ne⟩
  obtain ⟨w6, hw6⟩ : ∃ w6, w6 = (w5.setCell ⟨rb, 2, none⟩ (.int .i64 t2)).setCell ⟨rb, 4, none⟩ (.int .u64 (v2 : Int)) := ⟨_, rfl⟩
  rw [← hw6] at HR6 HL6 HRB6
  clear hr6 hg6 HR5 HL5 HRB5
  go_upto_region 12 with fail
  rw [← hw6]
  clear hw6 r2 g2 r4 g4
  have hr := HRB6.out.r; have ho := HRB6.out.o
  have x0 := cell_of_row _ _ 0 _ _ _ hr; have x1 := cell_of_row _ _ 1 _ _ _ hr; have x2 := cell_of_row _ _ 2 _ _ _ hr; have x3 := cell_of_row _ _ 3 _ _ _ hr; have x4 := cell_of_row _ _ 4 _ _ _ hr
  have y0 := cell_of_row _ _ 0 _ _ _ ho; have y1 := cell_of_row _ _ 1 _ _ _ ho; have y2 := cell_of_row _ _ 2 _ _ _ ho; have y3 := cell_of_row _ _ 3 _ _ _ ho; have y4 := cell_of_row _ _ 4 _ _ _ ho
  have f0 := frozen_of_row _ _ 0 _ _ ho; have f1 := frozen_of_row _ _ 1 _ _ ho; have f2 := frozen_of_row _ _ 2 _ _ ho; have f3 := frozen_of_row _ _ 3 _ _ ho; have f4 := frozen_of_row _ _ 4 _ _ ho
  simp only [List.getElem?_toArray, List.getElem?_cons_zero, List.getElem?_cons_succ] at x0 x1 x2 x3 x4 y0 y1 y2 y3 y4
  clear hr ho
  obtain ⟨hr7, hg7⟩ := store5 HRB6.out.o (.int .i64 0) (.slice A3 L.length k3) (.int .i64 t2) (.int .i64 0) (.int .u64 (v2 : Int))
  have HR7 := Lib.hid (HR6.out.put HS.out HRB6.out.o HOB.out hg7)
  have HL7 := Lib.hid (row_kept HL6.out hg7 (own_lt HL6.out HRB6.out.o (by decide)))
  have HO7 := Lib.hid hr7
  obtain ⟨w7, hw7⟩ : ∃ w7, w7 = ((((w6.setCell ⟨ob, 0, none⟩ (.int .i64 0)).setCell ⟨ob, 1, none⟩ (.slice A3 L.length k3)).setCell ⟨ob, 2, none⟩ (.int .i64 t2)).setCell ⟨ob, 3, none⟩ (.int .i64 0)).setCell ⟨ob, 4, none⟩ (.int .u64 (v2 : Int)) := ⟨_, rfl⟩
  rw [← hw7] at HR7 HL7 HO7
  clear hr7 hg7
  go_wp2_with fail
  rw [← hw7]
  refine bodyPost_ret (v := .agg #[.int .i64 0, .slice A3 L.length k3, .int .i64 t2, .int .i64 0, .int .u64 (v2 : Int)]) ?_ rfl ⟨A3, k3, rfl, HL7.out, HR7.out⟩
  exact results_cell_row rfl _ _ ob 52 _ (0, 0) _ rfl HO7.out Try.underlying52 rfl rec_size
end Go.Proofs.Ytaillfnmaiiapaa
/-
  A change that was told is read: the walk, of the other kinds.
-/
namespace Go.Proofs.Ytaillfnmaiiapaa
open Go.RowKit
set_option maxRecDepth 100000 in
set_option maxHeartbeats 2000000 in
theorem read_1 {w : World} {base nb mb cb : Nat} {W : Nat → Prop} {I : Int → Nat → World → Prop} {two : Bool} {F : FuncId} {cap : Array Value} {m : Nat} {K : List ByteArray} {c : Wa.Cu} {t : Int} {v : Nat} (hs : Smp base cb W I two F cap m) (h : RdAt w base nb mb cb W I K c t v w) (hK : K.length ≤ 900000) (hks : ∀ k ∈ K, k.size ≤ maxLen) (hm : m ≤ 1000000000) (hcs : c.s.size ≤ m) (hk : Wa.i64 c.small.1 = 1) :
    Calls Try.prog 85 #[.agg #[.pointer (some ⟨nb, 0, none⟩)], .pointer (some ⟨cb, 0, none⟩), .func (.func F) #[] cap] w (ReadEnd w base nb mb cb W I (Wa.rd two K t v c) t v) := by
  have hrd : Wa.rd two K t v c = (⟨1, (Wa.rdSer K c.small.2).1, Num.zag (Wa.rdSer K c.small.2).2.2.small.1, Num.zag (Wa.rdSer K c.small.2).2.2.small.2.small.1, 0⟩, (Wa.rdSer K c.small.2).2.1, (Wa.rdSer K c.small.2).2.2.small.2.small.2) := by
    unfold Wa.rd; rw [if_neg (by rw [hk]; decide), if_pos hk]
  rw [hrd]
  clear hrd
  have HS := Lib.hid hs; have H := Lib.hid h
  have HC := Lib.hid (cuSmall cb c (by unfold maxLen; omega) · ·)
  have z1 := Wa.small_size c
  have z2 := Wa.rdSer_size K c.small.2
  have HRS := Lib.hid (fun U (v' : Value) (hn : NamesIn U base nb mb v' K) hc => readSeries_any hn hK hks c.small.2 (by unfold maxLen; omega) hc h.cbl)
  unfold RdSer at HRS
  obtain ⟨p, hp⟩ : ∃ p, p = c.small := ⟨_, rfl⟩
  rw [← hp] at hk z1 z2 HRS HC ⊢
  clear hp
  obtain ⟨n, c1⟩ := p
  simp only at hk z1 z2 HRS HC ⊢
  obtain ⟨D, hD⟩ : ∃ D, D = Wa.rdSer K c1 := ⟨_, rfl⟩
  rw [← hD] at z2 HRS ⊢
  clear hD
  obtain ⟨L, K2, c2⟩ := D
  simp only at z2 HRS ⊢
  have HC2 := Lib.hid (cuSmall cb c2 (by unfold maxLen; omega) · ·)
  have z3 := Wa.small_size c2
  have HZ1 := Lib.hid (fun U => Zag_any c2.small.1 (Lib.hid (Wa.small_lt c2)) U)
  have HC3 := Lib.hid (cuSmall cb c2.small.2 (by unfold maxLen; omega) · ·)
  have HZ2 := Lib.hid (fun U => Zag_any c2.small.2.small.1 (Lib.hid (Wa.small_lt c2.small.2)) U)
  obtain ⟨p2, hp2⟩ : ∃ p2, p2 = c2.small := ⟨_, rfl⟩
  rw [← hp2] at HC2 HZ1 HC3 HZ2 z3 ⊢
  clear hp2
  obtain ⟨n2, c3⟩ := p2
  simp only at HC2 HZ1 HC3 HZ2 z3 ⊢
  obtain ⟨p3, hp3⟩ : ∃ p3, p3 = c3.small := ⟨_, rfl⟩
  rw [← hp3] at HC3 HZ2 ⊢
  clear hp3
  obtain ⟨n3, c4⟩ := p3
  simp only at HC3 HZ2 ⊢
  generalize Num.zag n2 = y2' at *
  generalize Num.zag n3 = y3' at *
  have hkk : IntKind.i64.wrap (n : Int) = 1 := hk
  clear h hs hk z1 z2 z3 hks
  go_enter Try.func85, Try.ntmps85
  go_wp2_with fail
  obtain ⟨wa, hwa⟩ : ∃ wa, wa = (w.alloc (.cells #[.pointer (some ⟨nb, 0, none⟩)] 81)).alloc (.cells #[.int .i64 0, .slice none 0 0, .int .i64 0, .int .i64 0, .int .u64 0] 52) := ⟨_, rfl⟩
  have hba : Below w.heap.size w wa := by rw [hwa]; exact ((Below.refl _ _).alloc (Nat.le_refl _) _).alloc (by simp) _
  have hx3 : wa.heap[w.heap.size]? = some (.cells #[.pointer (some ⟨nb, 0, none⟩)] 81 (0, 0)) := by rw [hwa]; exact heap_alloc2_old w _ _
  have hxo : wa.heap[w.heap.size + 1]? = some (.cells #[.int .i64 0, .slice none 0 0, .int .i64 0, .int .i64 0, .int .u64 0] 52 (0, 0)) := by rw [hwa]; exact heap_alloc2_new w _ _
  rw [← hwa]
  obtain ⟨ob, hob⟩ : ∃ ob, ob = w.heap.size + 1 := ⟨_, rfl⟩
  obtain ⟨b3, hb3⟩ : ∃ b3, b3 = w.heap.size := ⟨_, rfl⟩
  rw [← hob] at hxo ⊢
  rw [← hb3] at hx3 ⊢
  have HOB : Hid (w.heap.size ≤ ob) := Lib.hid (by omega)
  have HA := Lib.hid (H.out.later HS.out hba)
  have HX3 := Lib.hid hx3; have HXO := Lib.hid hxo
  clear hwa hba hx3 hxo hob hb3
  refine (HC.out wa HA.out.cur).mono ?_; rintro e w1 ⟨rfl, hc1, hg1⟩
  have HR1 := Lib.hid (HA.out.cur_ HS.out hc1 hg1)
  have hx3 := grown_keep HX3.out hg1 (cells_ne HX3.out HA.out.cur (by decide)); have hxo := grown_keep HXO.out hg1 (cells_ne HXO.out HA.out.cur (by decide))
  have HBW : Hid (w.heap.size ≤ w1.heap.size) := Lib.hid HR1.out.bel.size
  obtain ⟨w2, hw2⟩ : ∃ w2, w2 = w1.alloc (.cells #[.int .i64 1, .slice none 0 0, .int .i64 0, .int .i64 0, .int .u64 0] 52) := ⟨_, rfl⟩
  have hb2 : Below w1.heap.size w1 w2 := by rw [hw2]; exact (Below.refl _ _).alloc (Nat.le_refl _) _
  have hxr : w2.heap[w1.heap.size]? = some (.cells #[.int .i64 1, .slice none 0 0, .int .i64 0, .int .i64 0, .int .u64 0] 52 (0, 0)) := by rw [hw2]; exact heap_alloc_new w1 _
  have HR2 := Lib.hid (HR1.out.later HS.out hb2)
  have hlt := (Array.getElem?_eq_some_iff.1 hxo).1
  have HRB : Hid (ReadB b3 ob w1.heap.size nb (.int .i64 1) (.slice none 0 0) (.int .i64 0) (.int .i64 0) (.int .u64 0) w2) := Lib.hid ⟨heap_keep hx3 hb2, heap_keep hxo hb2, hxr, by omega⟩
  have q0 := cell_of_row _ _ 0 _ _ _ hxr
  have q3 := cell_of_row _ _ 0 _ _ _ HRB.out.f
  simp only [List.getElem?_toArray, List.getElem?_cons_zero] at q0 q3
  clear hx3 hxo hc1 hg1 hb2 hxr hlt HC HA HX3 HXO
  go_upto_region 2 with fail
  rw [← hw2]
  obtain ⟨rb, hrb⟩ : ∃ rb, rb = w1.heap.size := ⟨_, rfl⟩
  rw [← hrb] at HRB HBW q0 ⊢
  clear hw2 hrb
  obtain ⟨vn2, hn2⟩ := HR2.out.nam
  have HRS2 := Lib.hid (HRS.out w2 vn2 hn2 HR2.out.cur)
  clear hn2 HRS
  go_wp2_with fail
  refine HRS2.out.mono ?_; rintro e w3 ⟨A3, k3, vn3, rfl, hlab3, hn3, hc3, hk3, hb3⟩
  have HRB3 := Lib.hid (HRB.out.ser hk3 HR2.out.mc)
  have HR3 := Lib.hid (HR2.out.ser HS.out hn3 hc3 hk3 hb3)
  have HL3 := Lib.hid hlab3.2
  clear hlab3 hn3 hc3 hk3 hb3 HRS2 q0 q3
  have r1 := cell_of_row _ _ 1 _ _ _ HRB3.out.r; have g1 := frozen_of_row _ _ 1 _ _ HRB3.out.r
  simp only [List.getElem?_toArray, List.getElem?_cons_zero, List.getElem?_cons_succ] at r1
  have hgs := grown_setCell w3 rb 1 (.slice A3 L.length k3)
  have HR4 := Lib.hid (HR3.out.put HS.out HRB3.out.r HBW.out hgs)
  have HL4 := Lib.hid (row_kept HL3.out hgs (own_lt HL3.out HRB3.out.r (by decide)))
  have HRB4 : Hid (ReadB b3 ob rb nb (.int .i64 1) (.slice A3 L.length k3) (.int .i64 0) (.int .i64 0) (.int .u64 0) (w3.setCell ⟨rb, 1, none⟩ (.slice A3 L.length k3))) := Lib.hid ⟨grown_keep HRB3.out.f hgs (cells_ne HRB3.out.f HRB3.out.r (by decide)), grown_keep HRB3.out.o hgs HRB3.out.ne, heap_setCell_same w3 rb 1 _ _ _ HRB3.out.r, HRB3.out.ne⟩
  obtain ⟨w4, hw4⟩ : ∃ w4, w4 = w3.setCell ⟨rb, 1, none⟩ (.slice A3 L.length k3) := ⟨_, rfl⟩
  rw [← hw4] at HR4 HL4 HRB4
  clear hgs HR3 HL3 HRB3
  go_upto_region 9 with fail
  rw [← hw4]
  clear hw4 r1 g1
  go_wp2_with fail
  refine (HC2.out w4 HR4.out.cur).mono ?_; rintro e w5 ⟨rfl, hc5, hg5⟩
  have HRB5 := Lib.hid (HRB4.out.cur_ HR4.out.cur hg5)
  have HL5 := Lib.hid (row_kept HL4.out hg5 (own_lt HL4.out HR4.out.cur (by decide)))
  have HR5 := Lib.hid (HR4.out.cur_ HS.out hc5 hg5)
  clear hc5 hg5 HR4 HL4 HRB4
  go_wp2_with fail
  refine (HZ1.out w5).mono ?_; rintro e w5' ⟨rfl, rfl⟩
  go_wp2_with fail
  refine (HC3.out w5 HR5.out.cur).mono ?_; rintro e w8 ⟨rfl, hc8, hg8⟩
  have HRB8 := Lib.hid (HRB5.out.cur_ HR5.out.cur hg8)
  have HL8 := Lib.hid (row_kept HL5.out hg8 (own_lt HL5.out HR5.out.cur (by decide)))
  have HR8 := Lib.hid (HR5.out.cur_ HS.out hc8 hg8)
  clear hc8 hg8 HR5 HL5 HRB5
  go_wp2_with fail
  refine (HZ2.out w8).mono ?_; rintro e w8' ⟨rfl, rfl⟩
  have r2 := cell_of_row _ _ 2 _ _ _ HRB8.out.r; have g2 := frozen_of_row _ _ 2 _ _ HRB8.out.r
  have r3 := cell_of_row _ _ 3 _ _ _ HRB8.out.r; have g3 := frozen_of_row _ _ 3 _ _ HRB8.out.r
  simp only [List.getElem?_toArray, List.getElem?_cons_zero, List.getElem?_cons_succ] at r2 r3
  obtain ⟨hr6, hg6⟩ := store23 HRB8.out.r (.int .i64 y2') (.int .i64 y3')
  have HR6 := Lib.hid (HR8.out.put HS.out HRB8.out.r HBW.out hg6)
  have HL6 := Lib.hid (row_kept HL8.out hg6 (own_lt HL8.out HRB8.out.r (by decide)))
  have HRB6 : Hid (ReadB b3 ob rb nb (.int .i64 1) (.slice A3 L.length k3) (.int .i64 y2') (.int .i64 y3') (.int .u64 0) ((w8.setCell ⟨rb, 2, none⟩ (.int .i64 y2')).setCell ⟨rb, 3, none⟩ (.int .i64 y3'))) := Lib.hid ⟨grown_keep HRB8.out.f hg6 (cells_ne HRB8.out.f HRB8.out.r (by decide)), grown_keep HRB8.out.o hg6 HRB8.out.ne, hr6, HRB8.out.ne⟩
  obtain ⟨w6, hw6⟩ : ∃ w6, w6 = (w8.setCell ⟨rb, 2, none⟩ (.int .i64 y2')).setCell ⟨rb, 3, none⟩ (.int .i64 y3') := ⟨_, rfl⟩
  rw [← hw6] at HR6 HL6 HRB6
  clear hr6 hg6 HR8 HL8 HRB8
  go_upto_region 12 with fail
  rw [← hw6]
  clear hw6 r2 g2 r3 g3
  have hr := HRB6.out.r; have ho := HRB6.out.o
  have x0 := cell_of_row _ _ 0 _ _ _ hr; have x1 := cell_of_row _ _ 1 _ _ _ hr; have x2 := cell_of_row _ _ 2 _ _ _ hr; have x3 := cell_of_row _ _ 3 _ _ _ hr; have x4 := cell_of_row _ _ 4 _ _ _ hr
  have y0 := cell_of_row _ _ 0 _ _ _ ho; have y1 := cell_of_row _ _ 1 _ _ _ ho; have y2 := cell_of_row _ _ 2 _ _ _ ho; have y3 := cell_of_row _ _ 3 _ _ _ ho; have y4 := cell_of_row _ _ 4 _ _ _ ho
  have f0 := frozen_of_row _ _ 0 _ _ ho; have f1 := frozen_of_row _ _ 1 _ _ ho; have f2 := frozen_of_row _ _ 2 _ _ ho; have f3 := frozen_of_row _ _ 3 _ _ ho; have f4 := frozen_of_row _ _ 4 _ _ ho
  simp only [List.getElem?_toArray, List.getElem?_cons_zero, List.getElem?_cons_succ] at x0 x1 x2 x3 x4 y0 y1 y2 y3 y4
  clear hr ho
  obtain ⟨hr7, hg7⟩ := store5 HRB6.out.o (.int .i64 1) (.slice A3 L.length k3) (.int .i64 y2') (.int .i64 y3') (.int .u64 0)
  have HR7 := Lib.hid (HR6.out.put HS.out HRB6.out.o HOB.out hg7)
  have HL7 := Lib.hid (row_kept HL6.out hg7 (own_lt HL6.out HRB6.out.o (by decide)))
  have HO7 := Lib.hid hr7
  obtain ⟨w7, hw7⟩ : ∃ w7, w7 = ((((w6.setCell ⟨ob, 0, none⟩ (.int .i64 1)).setCell ⟨ob, 1, none⟩ (.slice A3 L.length k3)).setCell ⟨ob, 2, none⟩ (.int .i64 y2')).setCell ⟨ob, 3, none⟩ (.int .i64 y3')).setCell ⟨ob, 4, none⟩ (.int .u64 0) := ⟨_, rfl⟩
  rw [← hw7] at HR7 HL7 HO7
  clear hr7 hg7
  go_wp2_with fail
  rw [← hw7]
  refine bodyPost_ret (v := .agg #[.int .i64 1, .slice A3 L.length k3, .int .i64 y2', .int .i64 y3', .int .u64 0]) ?_ rfl ⟨A3, k3, rfl, HL7.out, HR7.out⟩
  exact results_cell_row rfl _ _ ob 52 _ (0, 0) _ rfl HO7.out Try.underlying52 rfl rec_size
set_option maxRecDepth 100000 in
set_option maxHeartbeats 2000000 in
theorem read_2 {w : World} {base nb mb cb : Nat} {W : Nat → Prop} {I : Int → Nat → World → Prop} {two : Bool} {F : FuncId} {cap : Array Value} {m : Nat} {K : List ByteArray} {c : Wa.Cu} {t : Int} {v : Nat} (hs : Smp base cb W I two F cap m) (h : RdAt w base nb mb cb W I K c t v w) (_hK : K.length ≤ 900000) (_hks : ∀ k ∈ K, k.size ≤ maxLen) (hm : m ≤ 1000000000) (hcs : c.s.size ≤ m) (hk : Wa.i64 c.small.1 = 2) :
    Calls Try.prog 85 #[.agg #[.pointer (some ⟨nb, 0, none⟩)], .pointer (some ⟨cb, 0, none⟩), .func (.func F) #[] cap] w (ReadEnd w base nb mb cb W I (Wa.rd two K t v c) t v) := by
  have hrd : Wa.rd two K t v c = (⟨2, [], Wa.i64 c.small.2.small.1, 0, 0⟩, K, c.small.2.small.2) := by
    unfold Wa.rd; rw [if_neg (by rw [hk]; decide), if_neg (by rw [hk]; decide), if_pos hk]
  rw [hrd]
  clear hrd
  have HS := Lib.hid hs; have H := Lib.hid h
  have HC := Lib.hid (cuSmall cb c (by unfold maxLen; omega) · ·)
  have z1 := Wa.small_size c
  have HC2 := Lib.hid (cuSmall cb c.small.2 (by unfold maxLen; omega) · ·)
  obtain ⟨p, hp⟩ : ∃ p, p = c.small := ⟨_, rfl⟩
  rw [← hp] at hk z1 HC HC2 ⊢
  clear hp
  obtain ⟨n, c1⟩ := p
  simp only at hk z1 HC HC2 ⊢
  obtain ⟨p2, hp2⟩ : ∃ p2, p2 = c1.small := ⟨_, rfl⟩
  rw [← hp2] at HC2 ⊢
  clear hp2
  obtain ⟨n2, c2⟩ := p2
  simp only at HC2 ⊢
  have hkk : IntKind.i64.wrap (n : Int) = 2 := hk
  have hk2 : IntKind.i64.wrap (n2 : Int) = Wa.i64 n2 := rfl
  clear h hs hk z1
  go_enter Try.func85, Try.ntmps85
  go_wp2_with fail
  obtain ⟨wa, hwa⟩ : ∃ wa, wa = (w.alloc (.cells #[.pointer (some ⟨nb, 0, none⟩)] 81)).alloc (.cells #[.int .i64 0, .slice none 0 0, .int .i64 0, .int .i64 0, .int .u64 0] 52) := ⟨_, rfl⟩
  have hba : Below w.heap.size w wa := by rw [hwa]; exact ((Below.refl _ _).alloc (Nat.le_refl _) _).alloc (by simp) _
  have hx3 : wa.heap[w.heap.size]? = some (.cells #[.pointer (some ⟨nb, 0, none⟩)] 81 (0, 0)) := by rw [hwa]; exact heap_alloc2_old w _ _
  have hxo : wa.heap[w.heap.size + 1]? = some (.cells #[.int .i64 0, .slice none 0 0, .int .i64 0, .int .i64 0, .int .u64 0] 52 (0, 0)) := by rw [hwa]; exact heap_alloc2_new w _ _
  rw [← hwa]
  obtain ⟨ob, hob⟩ : ∃ ob, ob = w.heap.size + 1 := ⟨_, rfl⟩
  obtain ⟨b3, hb3⟩ : ∃ b3, b3 = w.heap.size := ⟨_, rfl⟩
  rw [← hob] at hxo ⊢
  rw [← hb3] at hx3 ⊢
  have HOB : Hid (w.heap.size ≤ ob) := Lib.hid (by omega)
  have HA := Lib.hid (H.out.later HS.out hba)
  have HX3 := Lib.hid hx3; have HXO := Lib.hid hxo
  clear hwa hba hx3 hxo hob hb3
  refine (HC.out wa HA.out.cur).mono ?_; rintro e w1 ⟨rfl, hc1, hg1⟩
  have HR1 := Lib.hid (HA.out.cur_ HS.out hc1 hg1)
  have hx3 := grown_keep HX3.out hg1 (cells_ne HX3.out HA.out.cur (by decide)); have hxo := grown_keep HXO.out hg1 (cells_ne HXO.out HA.out.cur (by decide))
  have HBW : Hid (w.heap.size ≤ w1.heap.size) := Lib.hid HR1.out.bel.size
  obtain ⟨w2, hw2⟩ : ∃ w2, w2 = w1.alloc (.cells #[.int .i64 2, .slice none 0 0, .int .i64 0, .int .i64 0, .int .u64 0] 52) := ⟨_, rfl⟩
  have hb2 : Below w1.heap.size w1 w2 := by rw [hw2]; exact (Below.refl _ _).alloc (Nat.le_refl _) _
  have hxr : w2.heap[w1.heap.size]? = some (.cells #[.int .i64 2, .slice none 0 0, .int .i64 0, .int .i64 0, .int .u64 0] 52 (0, 0)) := by rw [hw2]; exact heap_alloc_new w1 _
  have HR2 := Lib.hid (HR1.out.later HS.out hb2)
  have hlt := (Array.getElem?_eq_some_iff.1 hxo).1
  have HRB : Hid (ReadB b3 ob w1.heap.size nb (.int .i64 2) (.slice none 0 0) (.int .i64 0) (.int .i64 0) (.int .u64 0) w2) := Lib.hid ⟨heap_keep hx3 hb2, heap_keep hxo hb2, hxr, by omega⟩
  have q0 := cell_of_row _ _ 0 _ _ _ hxr
  have q3 := cell_of_row _ _ 0 _ _ _ HRB.out.f
  simp only [List.getElem?_toArray, List.getElem?_cons_zero] at q0 q3
  clear hx3 hxo hc1 hg1 hb2 hxr hlt HC HA HX3 HXO
  go_upto_region 2 with fail
  rw [← hw2]
  obtain ⟨rb, hrb⟩ : ∃ rb, rb = w1.heap.size := ⟨_, rfl⟩
  rw [← hrb] at HRB HBW q0 ⊢
  clear hw2 hrb
  go_wp2_with fail
  refine (HC2.out w2 HR2.out.cur).mono ?_; rintro e w5 ⟨rfl, hc5, hg5⟩
  have HRB5 := Lib.hid (HRB.out.cur_ HR2.out.cur hg5)
  have HR5 := Lib.hid (HR2.out.cur_ HS.out hc5 hg5)
  clear hc5 hg5 HR2 HRB q0 q3
  have r2 := cell_of_row _ _ 2 _ _ _ HRB5.out.r; have g2 := frozen_of_row _ _ 2 _ _ HRB5.out.r
  simp only [List.getElem?_toArray, List.getElem?_cons_zero, List.getElem?_cons_succ] at r2
  have hg6 := grown_setCell w5 rb 2 (.int .i64 (Wa.i64 n2))
  have HR6 := Lib.hid (HR5.out.put HS.out HRB5.out.r HBW.out hg6)
  have HRB6 : Hid (ReadB b3 ob rb nb (.int .i64 2) (.slice none 0 0) (.int .i64 (Wa.i64 n2)) (.int .i64 0) (.int .u64 0) (w5.setCell ⟨rb, 2, none⟩ (.int .i64 (Wa.i64 n2)))) := Lib.hid ⟨grown_keep HRB5.out.f hg6 (cells_ne HRB5.out.f HRB5.out.r (by decide)), grown_keep HRB5.out.o hg6 HRB5.out.ne, heap_setCell_same w5 rb 2 _ _ _ HRB5.out.r, HRB5.out.ne⟩
  obtain ⟨w6, hw6⟩ : ∃ w6, w6 = w5.setCell ⟨rb, 2, none⟩ (.int .i64 (Wa.i64 n2)) := ⟨_, rfl⟩
  rw [← hw6] at HR6 HRB6
  have HL6 : Hid (w6.ownsRow base 54 2 (.slice none ([] : List Lab).length 0) ([] : List Lab).length (labCells [])) := Lib.hid (World.ownsRow_nil _ _ _ _)
  clear hg6 HR5 HRB5
  go_upto_region 12 with fail
  rw [← hw6]
  clear hw6 r2 g2
  have hr := HRB6.out.r; have ho := HRB6.out.o
  have x0 := cell_of_row _ _ 0 _ _ _ hr; have x1 := cell_of_row _ _ 1 _ _ _ hr; have x2 := cell_of_row _ _ 2 _ _ _ hr; have x3 := cell_of_row _ _ 3 _ _ _ hr; have x4 := cell_of_row _ _ 4 _ _ _ hr
  have y0 := cell_of_row _ _ 0 _ _ _ ho; have y1 := cell_of_row _ _ 1 _ _ _ ho; have y2 := cell_of_row _ _ 2 _ _ _ ho; have y3 := cell_of_row _ _ 3 _ _ _ ho; have y4 := cell_of_row _ _ 4 _ _ _ ho
  have f0 := frozen_of_row _ _ 0 _ _ ho; have f1 := frozen_of_row _ _ 1 _ _ ho; have f2 := frozen_of_row _ _ 2 _ _ ho; have f3 := frozen_of_row _ _ 3 _ _ ho; have f4 := frozen_of_row _ _ 4 _ _ ho
  simp only [List.getElem?_toArray, List.getElem?_cons_zero, List.getElem?_cons_succ] at x0 x1 x2 x3 x4 y0 y1 y2 y3 y4
  clear hr ho
  obtain ⟨hr7, hg7⟩ := store5 HRB6.out.o (.int .i64 2) (.slice none 0 0) (.int .i64 (Wa.i64 n2)) (.int .i64 0) (.int .u64 0)
  have HR7 := Lib.hid (HR6.out.put HS.out HRB6.out.o HOB.out hg7)
  have HL7 := Lib.hid (row_kept HL6.out hg7 (own_lt HL6.out HRB6.out.o (by decide)))
  have HO7 := Lib.hid hr7
  obtain ⟨w7, hw7⟩ : ∃ w7, w7 = ((((w6.setCell ⟨ob, 0, none⟩ (.int .i64 2)).setCell ⟨ob, 1, none⟩ (.slice none 0 0)).setCell ⟨ob, 2, none⟩ (.int .i64 (Wa.i64 n2))).setCell ⟨ob, 3, none⟩ (.int .i64 0)).setCell ⟨ob, 4, none⟩ (.int .u64 0) := ⟨_, rfl⟩
  rw [← hw7] at HR7 HL7 HO7
  clear hr7 hg7
  go_wp2_with fail
  rw [← hw7]
  refine bodyPost_ret (v := .agg #[.int .i64 2, .slice none 0 0, .int .i64 (Wa.i64 n2), .int .i64 0, .int .u64 0]) ?_ rfl ⟨none, 0, rfl, HL7.out, HR7.out⟩
  exact results_cell_row rfl _ _ ob 52 _ (0, 0) _ rfl HO7.out Try.underlying52 rfl rec_size
set_option maxRecDepth 100000 in
set_option maxHeartbeats 2000000 in
theorem read_x {w : World} {base nb mb cb : Nat} {W : Nat → Prop} {I : Int → Nat → World → Prop} {two : Bool} {F : FuncId} {cap : Array Value} {m : Nat} {K : List ByteArray} {c : Wa.Cu} {t : Int} {v : Nat} (hs : Smp base cb W I two F cap m) (h : RdAt w base nb mb cb W I K c t v w) (_hK : K.length ≤ 900000) (_hks : ∀ k ∈ K, k.size ≤ maxLen) (hm : m ≤ 1000000000) (hcs : c.s.size ≤ m) (hk0 : Wa.i64 c.small.1 ≠ 0) (hk1 : Wa.i64 c.small.1 ≠ 1) (hk : Wa.i64 c.small.1 ≠ 2) :
    Calls Try.prog 85 #[.agg #[.pointer (some ⟨nb, 0, none⟩)], .pointer (some ⟨cb, 0, none⟩), .func (.func F) #[] cap] w (ReadEnd w base nb mb cb W I (Wa.rd two K t v c) t v) := by
  have hrd : Wa.rd two K t v c = (⟨Wa.i64 c.small.1, [], 0, 0, 0⟩, K, ⟨c.small.2.s, true⟩) := by
    unfold Wa.rd; rw [if_neg hk0, if_neg hk1, if_neg hk]
  rw [hrd]
  clear hrd
  have HS := Lib.hid hs; have H := Lib.hid h
  have HC := Lib.hid (cuSmall cb c (by unfold maxLen; omega) · ·)
  have z1 := Wa.small_size c
  obtain ⟨p, hp⟩ : ∃ p, p = c.small := ⟨_, rfl⟩
  rw [← hp] at hk z1 HC hk0 hk1 ⊢
  clear hp
  obtain ⟨n, c1⟩ := p
  simp only at hk z1 HC hk0 hk1 ⊢
  have hkk : IntKind.i64.wrap (n : Int) = Wa.i64 n := rfl
  generalize Wa.i64 n = kk at *
  have d0 : decide (kk = 0) = false := decide_eq_false hk0
  have d1 : decide (kk = 1) = false := decide_eq_false hk1
  have d2 : decide (kk = 2) = false := decide_eq_false hk
  have e0 : (kk == 0) = false := beq_eq_false_iff_ne.2 hk0
  have e1 : (kk == 1) = false := beq_eq_false_iff_ne.2 hk1
  have e2 : (kk == 2) = false := beq_eq_false_iff_ne.2 hk
  clear h hs hk hk0 hk1 z1
  go_enter Try.func85, Try.ntmps85
  go_wp2_with fail
  obtain ⟨wa, hwa⟩ : ∃ wa, wa = (w.alloc (.cells #[.pointer (some ⟨nb, 0, none⟩)] 81)).alloc (.cells #[.int .i64 0, .slice none 0 0, .int .i64 0, .int .i64 0, .int .u64 0] 52) := ⟨_, rfl⟩
  have hba : Below w.heap.size w wa := by rw [hwa]; exact ((Below.refl _ _).alloc (Nat.le_refl _) _).alloc (by simp) _
  have hx3 : wa.heap[w.heap.size]? = some (.cells #[.pointer (some ⟨nb, 0, none⟩)] 81 (0, 0)) := by rw [hwa]; exact heap_alloc2_old w _ _
  have hxo : wa.heap[w.heap.size + 1]? = some (.cells #[.int .i64 0, .slice none 0 0, .int .i64 0, .int .i64 0, .int .u64 0] 52 (0, 0)) := by rw [hwa]; exact heap_alloc2_new w _ _
  rw [← hwa]
  obtain ⟨ob, hob⟩ : ∃ ob, ob = w.heap.size + 1 := ⟨_, rfl⟩
  obtain ⟨b3, hb3⟩ : ∃ b3, b3 = w.heap.size := ⟨_, rfl⟩
  rw [← hob] at hxo ⊢
  rw [← hb3] at hx3 ⊢
  have HOB : Hid (w.heap.size ≤ ob) := Lib.hid (by omega)
  have HA := Lib.hid (H.out.later HS.out hba)
  have HX3 := Lib.hid hx3; have HXO := Lib.hid hxo
  clear hwa hba hx3 hxo hob hb3
  refine (HC.out wa HA.out.cur).mono ?_; rintro e w1 ⟨rfl, hc1, hg1⟩
  have HR1 := Lib.hid (HA.out.cur_ HS.out hc1 hg1)
  have hx3 := grown_keep HX3.out hg1 (cells_ne HX3.out HA.out.cur (by decide)); have hxo := grown_keep HXO.out hg1 (cells_ne HXO.out HA.out.cur (by decide))
  have HBW : Hid (w.heap.size ≤ w1.heap.size) := Lib.hid HR1.out.bel.size
  obtain ⟨w2, hw2⟩ : ∃ w2, w2 = w1.alloc (.cells #[.int .i64 kk, .slice none 0 0, .int .i64 0, .int .i64 0, .int .u64 0] 52) := ⟨_, rfl⟩
  have hb2 : Below w1.heap.size w1 w2 := by rw [hw2]; exact (Below.refl _ _).alloc (Nat.le_refl _) _
  have hxr : w2.heap[w1.heap.size]? = some (.cells #[.int .i64 kk, .slice none 0 0, .int .i64 0, .int .i64 0, .int .u64 0] 52 (0, 0)) := by rw [hw2]; exact heap_alloc_new w1 _
  have HR2 := Lib.hid (HR1.out.later HS.out hb2)
  have hlt := (Array.getElem?_eq_some_iff.1 hxo).1
  have HRB : Hid (ReadB b3 ob w1.heap.size nb (.int .i64 kk) (.slice none 0 0) (.int .i64 0) (.int .i64 0) (.int .u64 0) w2) := Lib.hid ⟨heap_keep hx3 hb2, heap_keep hxo hb2, hxr, by omega⟩
  have q0 := cell_of_row _ _ 0 _ _ _ hxr
  have q3 := cell_of_row _ _ 0 _ _ _ HRB.out.f
  simp only [List.getElem?_toArray, List.getElem?_cons_zero] at q0 q3
  clear hx3 hxo hc1 hg1 hb2 hxr hlt HC HA HX3 HXO
  go_upto_region 2 with fail
  rw [← hw2]
  obtain ⟨rb, hrb⟩ : ∃ rb, rb = w1.heap.size := ⟨_, rfl⟩
  rw [← hrb] at HRB HBW q0 ⊢
  clear hw2 hrb
  obtain ⟨z0, z1, f0', f1'⟩ := HR2.out.cur.cells
  have hg6 := grown_setCell w2 cb 1 (.bool true)
  have HR6 := Lib.hid (HR2.out.cur_ HS.out (c2 := ⟨c1.s, true⟩) (HR2.out.cur.putBad true) hg6)
  have HRB6 := Lib.hid (HRB.out.cur_ HR2.out.cur hg6)
  obtain ⟨w6, hw6⟩ : ∃ w6, w6 = w2.setCell ⟨cb, 1, none⟩ (.bool true) := ⟨_, rfl⟩
  rw [← hw6] at HR6 HRB6
  have HL6 : Hid (w6.ownsRow base 54 2 (.slice none ([] : List Lab).length 0) ([] : List Lab).length (labCells [])) := Lib.hid (World.ownsRow_nil _ _ _ _)
  clear hg6 HR2 HRB
  go_upto_region 12 with fail
  rw [← hw6]
  clear hw6 z0 z1 f0' f1' q0 q3
  have hr := HRB6.out.r; have ho := HRB6.out.o
  have x0 := cell_of_row _ _ 0 _ _ _ hr; have x1 := cell_of_row _ _ 1 _ _ _ hr; have x2 := cell_of_row _ _ 2 _ _ _ hr; have x3 := cell_of_row _ _ 3 _ _ _ hr; have x4 := cell_of_row _ _ 4 _ _ _ hr
  have y0 := cell_of_row _ _ 0 _ _ _ ho; have y1 := cell_of_row _ _ 1 _ _ _ ho; have y2 := cell_of_row _ _ 2 _ _ _ ho; have y3 := cell_of_row _ _ 3 _ _ _ ho; have y4 := cell_of_row _ _ 4 _ _ _ ho
  have f0 := frozen_of_row _ _ 0 _ _ ho; have f1 := frozen_of_row _ _ 1 _ _ ho; have f2 := frozen_of_row _ _ 2 _ _ ho; have f3 := frozen_of_row _ _ 3 _ _ ho; have f4 := frozen_of_row _ _ 4 _ _ ho
  simp only [List.getElem?_toArray, List.getElem?_cons_zero, List.getElem?_cons_succ] at x0 x1 x2 x3 x4 y0 y1 y2 y3 y4
  clear hr ho
  obtain ⟨hr7, hg7⟩ := store5 HRB6.out.o (.int .i64 kk) (.slice none 0 0) (.int .i64 0) (.int .i64 0) (.int .u64 0)
  have HR7 := Lib.hid (HR6.out.put HS.out HRB6.out.o HOB.out hg7)
  have HL7 := Lib.hid (row_kept HL6.out hg7 (own_lt HL6.out HRB6.out.o (by decide)))
  have HO7 := Lib.hid hr7
  obtain ⟨w7, hw7⟩ : ∃ w7, w7 = ((((w6.setCell ⟨ob, 0, none⟩ (.int .i64 kk)).setCell ⟨ob, 1, none⟩ (.slice none 0 0)).setCell ⟨ob, 2, none⟩ (.int .i64 0)).setCell ⟨ob, 3, none⟩ (.int .i64 0)).setCell ⟨ob, 4, none⟩ (.int .u64 0) := ⟨_, rfl⟩
  rw [← hw7] at HR7 HL7 HO7
  clear hr7 hg7
  go_wp2_with fail
  rw [← hw7]
  refine bodyPost_ret (v := .agg #[.int .i64 kk, .slice none 0 0, .int .i64 0, .int .i64 0, .int .u64 0]) ?_ rfl ⟨none, 0, rfl, HL7.out, HR7.out⟩
  exact results_cell_row rfl _ _ ob 52 _ (0, 0) _ rfl HO7.out Try.underlying52 rfl rec_size
end Go.Proofs.Ytaillfnmaiiapaa
