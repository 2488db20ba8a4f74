import Derived.Test.YtaillfnmaiiapaaWaYb
/-
  What bytes begin with, in generation 2: the walk.
-/
namespace Go.Proofs.Ytaillfnmaiiapaa
open Go.RowKit
/-- what a change's reading leaves of the last sample -/
def Wa.rdT (two : Bool) (K : List ByteArray) (t : Int) (v : Nat) (c : Wa.Cu) : Int := if Wa.i64 c.small.1 = 0 then (Wa.rdSmp two t v (Wa.rdSer K c.small.2).2.2).1 else t
def Wa.rdV (two : Bool) (K : List ByteArray) (t : Int) (v : Nat) (c : Wa.Cu) : Nat := if Wa.i64 c.small.1 = 0 then (Wa.rdSmp two t v (Wa.rdSer K c.small.2).2.2).2.1 else v
theorem readChange_any {w : World} {base nb mb cb : Nat} {W : Nat → Prop} {I : Int → Nat → World → Prop} {two : Bool} {F : FuncId} {cap : Array Value} {m : Nat} {K : List ByteArray} {c : Wa.Cu} {t : Int} {v : Nat} (hs : Smp base cb W I two F cap m) (h : RdAt w base nb mb cb W I K c t v w) (hK : K.length ≤ 900000) (hks : ∀ k ∈ K, k.size ≤ maxLen) (hm : m ≤ 1000000000) (hcs : c.s.size ≤ m) (hv : v < 18446744073709551616) :
    Calls Try.prog 85 #[.agg #[.pointer (some ⟨nb, 0, none⟩)], .pointer (some ⟨cb, 0, none⟩), .func (.func F) #[] cap] w (ReadEnd w base nb mb cb W I (Wa.rd two K t v c) (Wa.rdT two K t v c) (Wa.rdV two K t v c)) := by
  unfold Wa.rdT Wa.rdV
  by_cases h0 : Wa.i64 c.small.1 = 0
  · rw [if_pos h0, if_pos h0]; exact read_0 hs h hK hks hm hcs hv h0
  · rw [if_neg h0, if_neg h0]
    by_cases h1 : Wa.i64 c.small.1 = 1
    · exact read_1 hs h hK hks hm hcs h1
    · by_cases h2 : Wa.i64 c.small.1 = 2
      · exact read_2 hs h hK hks hm hcs h2
      · exact read_x hs h hK hks hm hcs h0 h1 h2
theorem FW.refl {base cb : Nat} {W : Nat → Prop} {U : World} : FW base cb W U U := ⟨Below.refl _ _, fun _ _ _ _ => rfl⟩
theorem FW.cur {base cb : Nat} {W : Nat → Prop} {U V X : World} (h : FW base cb W U V) (hb : base ≤ U.heap.size) (hc : base ≤ cb) (hg : V.grownBy X (some cb)) : FW base cb W U X :=
  ⟨h.1.trans (cur_below hg hc (by have := h.1.size; omega)), fun g h1 h2 h3 => (hg.block g (by have := h.1.size; omega) (fun e => h2 (Option.some.inj e))).trans (h.2 g h1 h2 h3)⟩
theorem FW.later {base cb : Nat} {W : Nat → Prop} {U V X : World} (h : FW base cb W U V) (hb : base ≤ U.heap.size) (hg : Below V.heap.size V X) : FW base cb W U X :=
  ⟨h.1.trans (hg.mono (by have := h.1.size; omega)), fun g h1 h2 h3 => (hg.block g (by have := h.1.size; omega)).trans (h.2 g h1 h2 h3)⟩
/-- a cell that holds the cursor -/
def PtrAt (pb cb : Nat) (U : World) : Prop := U.heap[pb]? = some (.cells #[.pointer (some ⟨cb, 0, none⟩)] 137 (0, 0))
set_option maxRecDepth 100000 in
set_option maxHeartbeats 1000000 in
theorem rdSmp2_any (pb cb base : Nat) (t : Int) (v : Nat) (c : Wa.Cu) (hc : c.s.size ≤ 1000000000) (hcb : base ≤ cb) (w : World) (h : CurAt cb c.s c.bad w) (hp : PtrAt pb cb w) (hbs : base ≤ w.heap.size) :
    Calls Try.prog 86 #[.pointer (some ⟨pb, 0, none⟩)] w fun e V => e = .returned (.tuple #[.int .i64 (Wa.rdSmp true t v c).1, .int .u64 (((Wa.rdSmp true t v c).2.1 : Nat) : Int)]) ∧ CurAt cb (Wa.rdSmp true t v c).2.2.s (Wa.rdSmp true t v c).2.2.bad V ∧ PtrAt pb cb V ∧ FW base cb (fun _ => False) w V := by
  have hr : Wa.rdSmp true t v c = (Wa.i64 c.small.1, c.small.2.wide.1, c.small.2.wide.2) := rfl
  rw [hr]
  have z1 := Wa.small_size c
  have HC1 := Lib.hid (cuSmall cb c (by unfold maxLen; omega) · ·)
  have HC2 := Lib.hid (cuWide cb c.small.2 (by unfold maxLen; omega) · ·)
  obtain ⟨p, hp1⟩ : ∃ p, p = c.small := ⟨_, rfl⟩
  rw [← hp1] at HC1 HC2 ⊢
  clear hp1 z1 hr
  obtain ⟨n1, c1⟩ := p
  simp only at HC1 HC2 ⊢
  obtain ⟨p, hp1⟩ : ∃ p, p = c1.wide := ⟨_, rfl⟩
  rw [← hp1] at HC2 ⊢
  clear hp1
  obtain ⟨n2, c2⟩ := p
  simp only at HC2 ⊢
  have hk1 : IntKind.i64.wrap (n1 : Int) = Wa.i64 n1 := rfl
  generalize Wa.i64 n1 = k1 at *
  have H := Lib.hid h; have HP := Lib.hid hp; have HBS := Lib.hid hbs
  have hne : pb ≠ cb := cells_ne hp h (by decide)
  have HNE := Lib.hid hne
  clear h hp hbs hne
  go_enter Try.func86, Try.ntmps86
  go_wp2_with fail
  refine plain_robD [(0, some 3), (1, some 4), (2, some 5), (3, some 6), (4, some 7), (5, some 1), (6, some 2)] [] (fun _ _ => True) (fun δ U => PtrAt pb cb U ∧ CurAt cb (if δ 4 = true then c2 else if δ 1 = true then c1 else c).s (if δ 4 = true then c2 else if δ 1 = true then c1 else c).bad U ∧ FW base cb (fun _ => False) w U) [(0, .pointer (some ⟨cb, 0, none⟩)), (1, .int .u64 (n1 : Int)), (2, .int .i64 k1), (3, .pointer (some ⟨cb, 0, none⟩)), (4, .int .u64 (n2 : Int)), (5, .int .i64 k1), (6, .int .u64 (n2 : Int))] [] 0 (by kernel_rfl) (by kernel_rfl) (by kernel_rfl) (⟨HP.out, H.out, FW.refl.later HBS.out (Below.refl _ _).drew⟩) ?_ ?_ ?_
  · intro p hp; cases hp
  · refine ⟨⟨_, rfl, fun ν δ U hU h00 h1 h2 hp => ?_⟩, ?_⟩
    · simp only [putsν, Act.put, List.setIfInBounds_toArray, List.set_cons_zero, List.set_cons_succ]
      dsimp only at hU
      exact Yld.value (.pointer (some ⟨cb, 0, none⟩)) U (by kernel_rfl) (by have h0 : U.cell? ⟨pb, 0, none⟩ = some (.pointer (some ⟨cb, 0, none⟩)) := cell_of_row _ _ _ _ _ _ hU.1; go_simp) ⟨trivial, hU, Fx.fixed rfl rfl⟩
    refine ⟨⟨_, rfl, fun ν δ U hU h00 h1 h2 hp => ?_⟩, ?_⟩
    · simp only [putsν, Act.put, List.setIfInBounds_toArray, List.set_cons_zero, List.set_cons_succ]
      have e0 := (hp 0 (by kernel_rfl) (by kernel_rfl)).val _ rfl
      simp only [e0]
      dsimp only at hU
      have hU1 := hU.2.1
      rw [if_neg (by rw [h2 4 (by kernel_rfl) (by kernel_rfl)]; decide), if_neg (by rw [h00]; decide)] at hU1
      refine Yld.call 87 #[.pointer (some ⟨cb, 0, none⟩)] (by kernel_rfl) (by go_simp) ?_
      have hcall := HC1.out U hU1
      refine hcall.mono ?_
      rintro e V ⟨rfl, hc, hg⟩; exact ⟨_, rfl, trivial, ⟨grown_keep hU.1 hg HNE.out, by rw [if_neg (by simp [h2 4 (by kernel_rfl) (by kernel_rfl)]), if_pos (by simp)]; exact hc, hU.2.2.cur HBS.out hcb hg⟩, Fx.fixed rfl rfl⟩
    refine ⟨⟨_, rfl, fun ν δ U hU h00 h1 h2 hp => ?_⟩, ?_⟩
    · simp only [putsν, Act.put, List.setIfInBounds_toArray, List.set_cons_zero, List.set_cons_succ]
      have e1 := (hp 1 (by kernel_rfl) (by kernel_rfl)).val _ rfl
      simp only [e1]
      dsimp only at hU
      exact Yld.value (.int .i64 k1) U (by kernel_rfl) (by go_simp) ⟨trivial, hU, Fx.fixed rfl rfl⟩
    refine ⟨⟨_, rfl, fun ν δ U hU h00 h1 h2 hp => ?_⟩, ?_⟩
    · simp only [putsν, Act.put, List.setIfInBounds_toArray, List.set_cons_zero, List.set_cons_succ]
      dsimp only at hU
      exact Yld.value (.pointer (some ⟨cb, 0, none⟩)) U (by kernel_rfl) (by have h0 : U.cell? ⟨pb, 0, none⟩ = some (.pointer (some ⟨cb, 0, none⟩)) := cell_of_row _ _ _ _ _ _ hU.1; go_simp) ⟨trivial, hU, Fx.fixed rfl rfl⟩
    refine ⟨⟨_, rfl, fun ν δ U hU h00 h1 h2 hp => ?_⟩, ?_⟩
    · simp only [putsν, Act.put, List.setIfInBounds_toArray, List.set_cons_zero, List.set_cons_succ]
      have e3 := (hp 3 (by kernel_rfl) (by kernel_rfl)).val _ rfl
      simp only [e3]
      dsimp only at hU
      have hU1 := hU.2.1
      rw [if_neg (by rw [h00]; decide), if_pos (h1 1 (by kernel_rfl) (by kernel_rfl))] at hU1
      refine Yld.call 69 #[.pointer (some ⟨cb, 0, none⟩)] (by kernel_rfl) (by go_simp) ?_
      have hcall := HC2.out U hU1
      refine hcall.mono ?_
      rintro e V ⟨rfl, hc, hg⟩; exact ⟨_, rfl, trivial, ⟨grown_keep hU.1 hg HNE.out, by rw [if_pos (by simp)]; exact hc, hU.2.2.cur HBS.out hcb hg⟩, Fx.fixed rfl rfl⟩
    refine ⟨⟨_, rfl, fun ν δ U hU h00 h1 h2 hp => ?_⟩, ?_⟩
    · simp only [putsν, Act.put, List.setIfInBounds_toArray, List.set_cons_zero, List.set_cons_succ]
      have e2 := (hp 2 (by kernel_rfl) (by kernel_rfl)).val _ rfl
      simp only [e2]
      dsimp only at hU
      exact Yld.value (.int .i64 k1) U (by kernel_rfl) (by go_simp) ⟨trivial, hU, Fx.fixed rfl rfl⟩
    refine ⟨⟨_, rfl, fun ν δ U hU h00 h1 h2 hp => ?_⟩, ?_⟩
    · simp only [putsν, Act.put, List.setIfInBounds_toArray, List.set_cons_zero, List.set_cons_succ]
      have e4 := (hp 4 (by kernel_rfl) (by kernel_rfl)).val _ rfl
      simp only [e4]
      dsimp only at hU
      exact Yld.value (.int .u64 (n2 : Int)) U (by kernel_rfl) (by go_simp) ⟨trivial, hU, Fx.fixed rfl rfl⟩
    trivial
  intro ν δ w3 hS3 hd hf
  have e0 := (hf 0 (by kernel_rfl)).val _ rfl
  have e1 := (hf 1 (by kernel_rfl)).val _ rfl
  have e2 := (hf 2 (by kernel_rfl)).val _ rfl
  have e3 := (hf 3 (by kernel_rfl)).val _ rfl
  have e4 := (hf 4 (by kernel_rfl)).val _ rfl
  have e5 := (hf 5 (by kernel_rfl)).val _ rfl
  have e6 := (hf 6 (by kernel_rfl)).val _ rfl
  simp only [putsν, Act.put, List.setIfInBounds_toArray, List.set_cons_zero, List.set_cons_succ, e0, e1, e2, e3, e4, e5, e6]
  clear hf e0 e1 e2 e3 e4 e5 e6
  rw [if_pos (hd 4 (by kernel_rfl))] at hS3
  refine wpAnyT_done (by kernel_rfl) ?_ _
  refine only_mk ?_
  go_wp2_with fail
  go_ret2
  exact ⟨rfl, hS3.2.1, hS3.1, hS3.2.2⟩
/-- samples of generation 2 -/
theorem smp2 {base cb pb : Nat} (hcb : base ≤ cb) : Smp base cb (fun _ => False) (fun _ _ U => PtrAt pb cb U) true 86 #[.pointer (some ⟨pb, 0, none⟩)] 1000000000 where
  enter := fun args U => by kernel_rfl
  keep := fun t v U V h hk => hk pb _ _ h (.inr (.inr rfl))
  own := fun t v U h g hg => hg.elim
  does := fun t v U c hv hc hm hi hb => by
    refine (rdSmp2_any pb cb base t v c hm hcb U hc hi hb).mono ?_
    rintro e V ⟨rfl, h1, h2, h3⟩
    exact ⟨rfl, h1, h2, h3⟩
theorem Wa.take2_not {K : List ByteArray} {s : ByteArray} (h : (Fr.get s 20000).2.2 ≠ 0) : Wa.take2 K s = ([], K, s, (Fr.get s 20000).2.2) := by unfold Wa.take2; rw [if_neg h]
theorem Wa.take2_in {K : List ByteArray} {s : ByteArray} (h : (Fr.get s 20000).2.2 = 0) : Wa.take2 K s =
    (if (Wa.rd true K 0 0 ⟨(Fr.get s 20000).1, false⟩).2.2.s.size = 0 ∧ (Wa.rd true K 0 0 ⟨(Fr.get s 20000).1, false⟩).2.2.bad = false then
      ([(Wa.rd true K 0 0 ⟨(Fr.get s 20000).1, false⟩).1], (Wa.rd true K 0 0 ⟨(Fr.get s 20000).1, false⟩).2.1, (Fr.get s 20000).2.1, 0)
    else ([], (Wa.rd true K 0 0 ⟨(Fr.get s 20000).1, false⟩).2.1, s, 2)) := by unfold Wa.take2; rw [if_pos h]
theorem Wa.rd_small (two : Bool) (K : List ByteArray) (t : Int) (v : Nat) (c : Wa.Cu) (hv : v < 18446744073709551616) : (Wa.rd two K t v c).1.l.length ≤ 6 ∧ (∀ i, i < (Wa.rd two K t v c).1.l.length → (La.at_ (Wa.rd two K t v c).1.l i).1.size ≤ 300 ∧ (La.at_ (Wa.rd two K t v c).1.l i).2.size ≤ 300) ∧ Wa.Words (Wa.rd two K t v c).1 ∧ Wa.rdV two K t v c < 18446744073709551616 := by
  have hs := Wa.rdSer_small K c.small.2
  have hsv : (Wa.rdSmp two t v (Wa.rdSer K c.small.2).2.2).2.1 < 18446744073709551616 := by
    unfold Wa.rdSmp
    split
    · exact Wa.wide_lt _
    · exact Nat.xor_lt_two_pow (n := 64) hv (Wa.small_lt _)
  have hst : -9223372036854775808 ≤ (Wa.rdSmp two t v (Wa.rdSer K c.small.2).2.2).1 ∧ (Wa.rdSmp two t v (Wa.rdSer K c.small.2).2.2).1 ≤ 9223372036854775807 := by
    unfold Wa.rdSmp
    split
    · exact Wa.i64_bounds _
    · exact Go.Proofs.Ytaillfnmaiiapaa.i64_bounds _
  have hzag : ∀ c : Wa.Cu, -9223372036854775808 ≤ Num.zag c.small.1 ∧ Num.zag c.small.1 ≤ 9223372036854775807 := fun c => by
    have := Wa.small_lt c
    unfold Num.zag
    split <;> omega
  unfold Wa.rdV
  unfold Wa.rd
  by_cases h0 : Wa.i64 c.small.1 = 0
  · rw [if_pos h0, if_pos h0]
    exact ⟨hs.1, hs.2, ⟨hst.1, hst.2, by show (-9223372036854775808 : Int) ≤ 0; decide, by show (0 : Int) ≤ _; decide, hsv⟩, hsv⟩
  · rw [if_neg h0, if_neg h0]
    by_cases h1 : Wa.i64 c.small.1 = 1
    · rw [if_pos h1]
      exact ⟨hs.1, hs.2, ⟨(hzag _).1, (hzag _).2, (hzag _).1, (hzag _).2, by show (0 : Nat) < _; decide⟩, hv⟩
    · rw [if_neg h1]
      have hn : ([] : List Lab).length ≤ 6 ∧ ∀ i, i < ([] : List Lab).length → (La.at_ [] i).1.size ≤ 300 ∧ (La.at_ [] i).2.size ≤ 300 := ⟨Nat.zero_le _, fun i hi => absurd hi (Nat.not_lt_zero i)⟩
      by_cases h2 : Wa.i64 c.small.1 = 2
      · rw [if_pos h2]
        exact ⟨hn.1, hn.2, ⟨(Wa.i64_bounds _).1, (Wa.i64_bounds _).2, by show (-9223372036854775808 : Int) ≤ 0; decide, by show (0 : Int) ≤ _; decide, by show (0 : Nat) < _; decide⟩, hv⟩
      · rw [if_neg h2]
        exact ⟨hn.1, hn.2, ⟨by show (-9223372036854775808 : Int) ≤ 0; decide, by show (0 : Int) ≤ _; decide, by show (-9223372036854775808 : Int) ≤ 0; decide, by show (0 : Int) ≤ _; decide, by show (0 : Nat) < _; decide⟩, hv⟩
end Go.Proofs.Ytaillfnmaiiapaa
/-
  What bytes begin with, in generation 2: the walk of take.
-/
namespace Go.Proofs.Ytaillfnmaiiapaa
open Go.RowKit
/-- what a take leaves: what was told, at the end -/
theorem TookEnd.of_rd {w V : World} {base nb mb cb : Nat} {W : Nat → Prop} {I : Int → Nat → World → Prop} {K : List ByteArray} {c : Wa.Cu} {t : Int} {v : Nat} (h : RdAt w base nb mb cb W I K c t v V) (hW : ∀ g, W g → w.heap.size ≤ g) : (∃ v', NamesIn V base nb mb v' K) ∧ RKeeps mb w V ∧ Below base w V :=
  ⟨h.nam, fun g o hg h1 h2 => h.nk g o hg h1 (fun hw => by have := hW g hw; have := (Array.getElem?_eq_some_iff.1 hg).1; omega) h2, h.bel⟩
set_option maxRecDepth 100000 in
set_option maxHeartbeats 4000000 in
theorem take2_any (s : ByteArray) (hs : s.size ≤ 1000000) {w : World} {base nb mb : Nat} {v : Value} {K : List ByteArray} (h : NamesIn w base nb mb v K) (hK : K.length ≤ 800000) (hks : ∀ k ∈ K, k.size ≤ maxLen) :
    Calls Try.prog 79 #[.agg #[.pointer (some ⟨nb, 0, none⟩)], .string s] w (TookEnd w base nb mb (Wa.take2 K s)) := by
  have H := Lib.hid h
  have hbs : base ≤ w.heap.size := by have h1 := (Array.getElem?_eq_some_iff.1 h.cells).1; have h2 := h.nlo; omega
  have HBS := Lib.hid hbs; have HKS := Lib.hid hks
  have HG := Lib.hid (fun W => Get_any s (by unfold maxLen; omega) 20000 (Lib.hid (by decide)) W)
  have hno := Wa.take2_not (K := K) (s := s); have hin := Wa.take2_in (K := K) (s := s)
  have hless := Fr.get_less s 20000
  have hgs : (Fr.get s 20000).2.2 = 0 → ((Fr.get s 20000).1.size : Int) ≤ 20000 := fun h => (Fr.get_whole s 20000 h).2
  obtain ⟨G, hG⟩ : ∃ G, G = Fr.get s 20000 := ⟨_, rfl⟩
  rw [← hG] at HG hno hin hless hgs
  clear hG h hbs hks
  obtain ⟨b, rest, shape⟩ := G
  simp only at HG hno hin hless hgs
  by_cases hsh : shape = 0
  · subst hsh
    have hX := hin rfl
    have hbz := hgs rfl
    rw [hX]
    clear hno hin hless hgs hX
    have hsm := Wa.rd_small true K 0 0 ⟨b, false⟩ (by decide)
    have HRD := Lib.hid (fun U cb pb (hcb : base ≤ cb) (hr : RdAt w base nb mb cb (fun _ => False) (fun _ _ U => PtrAt pb cb U) K ⟨b, false⟩ 0 0 U) => readChange_any (F := 86) (two := true) (smp2 hcb) (RdAt.mk hr.nam hr.cur hr.st (fun _ _ h _ _ _ => h) (Below.refl _ _) hr.cbl hr.size : RdAt U base nb mb cb (fun _ => False) (fun _ _ U => PtrAt pb cb U) K ⟨b, false⟩ 0 0 U) (by omega) HKS.out (by decide) (by show b.size ≤ _; omega) (by decide))
    obtain ⟨D, hD⟩ : ∃ D, D = Wa.rd true K 0 0 ⟨b, false⟩ := ⟨_, rfl⟩
    rw [← hD] at HRD hsm ⊢
    clear hD
    obtain ⟨r, K2, c2⟩ := D
    simp only at HRD hsm ⊢
    have HSM := Lib.hid hsm
    obtain ⟨X, hXX⟩ : ∃ X : List Wa.Rec × List ByteArray × ByteArray × Nat, X = if c2.s.size = 0 ∧ c2.bad = false then ([r], K2, rest, 0) else ([], K2, s, 2) := ⟨_, rfl⟩
    rw [← hXX]
    have HX := Lib.hid hXX
    clear hXX hsm
    go_enter Try.func79, Try.ntmps79
    go_wp2_with fail
    have HA := Lib.hid ((Below.refl w.heap.size w).alloc (Nat.le_refl _) (.cells #[.pointer (some ⟨nb, 0, none⟩)] 81))
    have hxa := heap_alloc_new w (.cells #[.pointer (some ⟨nb, 0, none⟩)] 81)
    refine (HG.out _).mono ?_; rintro e w1 ⟨rfl, hb1⟩
    have hx1 := heap_keep hxa hb1
    have HB1 := Lib.hid (below_step HA.out hb1)
    have hb2 : Below w1.heap.size w1 ((w1.alloc (.cells #[.string b, .bool false] 131)).alloc (.cells #[.pointer (some ⟨w1.heap.size, 0, none⟩)] 137)) := ((Below.refl _ _).alloc (Nat.le_refl _) _).alloc (by simp) _
    have hcu : CurAt w1.heap.size b false ((w1.alloc (.cells #[.string b, .bool false] 131)).alloc (.cells #[.pointer (some ⟨w1.heap.size, 0, none⟩)] 137)) := heap_alloc2_old w1 _ _
    have hpt : PtrAt (w1.heap.size + 1) w1.heap.size ((w1.alloc (.cells #[.string b, .bool false] 131)).alloc (.cells #[.pointer (some ⟨w1.heap.size, 0, none⟩)] 137)) := heap_alloc2_new w1 _ _
    obtain ⟨w2, hw2⟩ : ∃ w2, w2 = (w1.alloc (.cells #[.string b, .bool false] 131)).alloc (.cells #[.pointer (some ⟨w1.heap.size, 0, none⟩)] 137) := ⟨_, rfl⟩
    rw [← hw2] at hb2 hcu hpt
    obtain ⟨pb, hpb⟩ : ∃ pb, pb = w1.heap.size + 1 := ⟨_, rfl⟩
    obtain ⟨cb, hcb⟩ : ∃ cb, cb = w1.heap.size := ⟨_, rfl⟩
    rw [← hpb, ← hcb] at hpt
    rw [← hcb] at hcu
    have hx2 := heap_keep hx1 hb2
    have HB2 := Lib.hid (below_step HB1.out hb2)
    have HCB : Hid (base ≤ cb) := Lib.hid (by have h1 := HB1.out.size; have h2 := HBS.out; omega)
    have HR2 : Hid (RdAt w base nb mb cb (fun _ => False) (fun _ _ U => PtrAt pb cb U) K ⟨b, false⟩ 0 0 w2) := Lib.hid ⟨⟨v, H.out.later HB2.out⟩, hcu, hpt, NKW.below HB2.out, HB2.out.mono HBS.out, HCB.out, HBS.out⟩
    have HRD2 := Lib.hid (HRD.out w2 cb pb HCB.out HR2.out)
    have y0 := cell_of_row _ _ 0 _ _ _ hx2; have y1 := cell_of_row _ _ 0 _ _ _ hpt
    simp only [List.getElem?_toArray, List.getElem?_cons_zero] at y0 y1
    have HX2 := Lib.hid hx2
    clear hxa hx1 hx2 hb1 hb2 hcu hpt HRD HA
    go_upto_region 5 with fail
    rw [← hw2, ← hpb]
    clear hw2 hpb hcb
    go_wp2_with fail
    refine HRD2.out.mono ?_; rintro e w3 ⟨A3, k3, rfl, ho3, hr3⟩
    have HR3 : Hid (RdAt w base nb mb cb (fun _ => False) (fun _ _ U => PtrAt pb cb U) K2 c2 0 0 w3) := Lib.hid ⟨hr3.nam, hr3.cur, hr3.st, HR2.out.nk.trans hr3.nk, HR2.out.bel.trans hr3.bel, HCB.out, HBS.out⟩
    have HO3 := Lib.hid ho3
    clear hr3 ho3 y0 y1
    have hb4 : Below w3.heap.size w3 (w3.alloc (.cells (recC r A3 k3) 52)) := (Below.refl _ _).alloc (Nat.le_refl _) _
    have hr4 : (w3.alloc (.cells (recC r A3 k3) 52)).heap[w3.heap.size]? = some (.cells (recC r A3 k3) 52 (0, 0)) := heap_alloc_new w3 _
    obtain ⟨w4, hw4⟩ : ∃ w4, w4 = w3.alloc (.cells (recC r A3 k3) 52) := ⟨_, rfl⟩
    rw [← hw4] at hb4 hr4
    have HR4 := Lib.hid (HR3.out.later (smp2 HCB.out) hb4); have HO4 := Lib.hid (row_far HO3.out hb4)
    obtain ⟨rb, hrb⟩ : ∃ rb, rb = w3.heap.size := ⟨_, rfl⟩
    rw [← hrb] at hr4
    have HC4 := Lib.hid hr4
    have HDN := Lib.hid (cuDone cb c2 w4 HR4.out.cur)
    have y1 := cell_of_row _ _ 0 _ _ _ HR4.out.st
    simp only [List.getElem?_toArray, List.getElem?_cons_zero] at y1
    unfold recC at hw4 hr4 HC4 ⊢
    clear hb4 hr4
    go_upto_region 6 with fail
    rw [← hw4, ← hrb]
    clear hw4 hrb
    go_wp2_with fail
    refine HDN.out.mono ?_; rintro e w5 ⟨rfl, hb5⟩
    have HR5 := Lib.hid (HR4.out.later (smp2 HCB.out) hb5); have HO5 := Lib.hid (row_far HO4.out hb5)
    have hr5 := heap_keep HC4.out hb5
    have HC5 := Lib.hid hr5
    clear hb5 y1
    obtain ⟨cs, cbad⟩ := c2
    simp only at HX ⊢
    have hem : (cs.toList.isEmpty && !cbad) = decide (cs.size = 0 ∧ cbad = false) := by
      rw [La.isEmpty_eq cs]
      cases cbad <;> simp
    rw [hem]
    by_cases hd : cs.size = 0 ∧ cbad = false
    · have HXN : Hid (X = ([r], K2, rest, 0)) := Lib.hid (by rw [HX.out, if_pos hd])
      rw [decide_eq_true hd]
      have x0 := cell_of_row _ _ 0 _ _ _ hr5; have x1 := cell_of_row _ _ 1 _ _ _ hr5; have x2 := cell_of_row _ _ 2 _ _ _ hr5; have x3 := cell_of_row _ _ 3 _ _ _ hr5; have x4 := cell_of_row _ _ 4 _ _ _ hr5
      simp only [List.getElem?_toArray, List.getElem?_cons_zero, List.getElem?_cons_succ] at x0 x1 x2 x3 x4
      clear hd hem HX hr5
      go_wp2_with fail
      go_ret3
      rw [HXN.out]
      have hb6 := (Below.refl w5.heap.size w5).alloc (Nat.le_refl _) (.cells #[.int .i64 r.kind, .slice A3 r.l.length k3, .int .i64 r.t, .int .i64 r.hi, .int .u64 (r.v : Int)] 52)
      have hr6 := HR5.out.later (smp2 HCB.out) hb6
      have ho6 := row_far HO5.out hb6
      obtain ⟨q1, q2, q3⟩ := TookEnd.of_rd hr6 (fun _ h => h.elim)
      obtain ⟨v6, hn6⟩ := q1
      obtain ⟨A9, c9, e9, -, -, hl9⟩ := own_lab ho6
      cases e9
      refine ⟨some ⟨w5.heap.size, 0, none⟩, 1, fun _ => ⟨r, A3, k3⟩, v6, rfl, rfl, (fun e => by cases e), row_built 5 _ w5 _ _ (fun j hj => by
        rcases (show j = 0 ∨ j = 1 ∨ j = 2 ∨ j = 3 ∨ j = 4 by omega) with rfl | rfl | rfl | rfl | rfl <;> rfl), fun i hi => ⟨⟨hl9, by show r.l.length ≤ 10; have := HSM.out.1; omega, HSM.out.2.1, HSM.out.2.2.1⟩, ho6⟩, hn6, q2, q3⟩
    · have HXN : Hid (X = ([], K2, s, 2)) := Lib.hid (by rw [HX.out, if_neg hd])
      rw [decide_eq_false hd]
      clear hd hem HX hr5
      go_wp2_with fail
      go_ret3
      rw [HXN.out]
      obtain ⟨q1, q2, q3⟩ := TookEnd.of_rd HR5.out (fun _ h => h.elim)
      obtain ⟨v6, hn6⟩ := q1
      exact TookEnd.none_ hn6 q2 q3
  · have hX := hno hsh
    rw [hX]
    have d0 : decide ((shape : Int) = 0) = false := decide_eq_false (by omega)
    have d1 : ((shape : Int) != 0) = true := by simp; exact hsh
    have d2 : ((shape : Int) == 0) = false := beq_eq_false_iff_ne.2 (by omega)
    clear hno hin hless hX
    go_enter Try.func79, Try.ntmps79
    go_wp2_with fail
    refine (HG.out _).mono ?_; rintro e w1 ⟨rfl, hb1⟩
    have HB1 := Lib.hid (((Below.refl w.heap.size w).alloc (Nat.le_refl _) (.cells #[.pointer (some ⟨nb, 0, none⟩)] 81)).trans (hb1.mono (by simp)))
    clear hb1
    go_wp2_with fail
    go_ret3
    exact TookEnd.none_ (H.out.later HB1.out) (RKeeps.below HB1.out) (HB1.out.mono HBS.out)
end Go.Proofs.Ytaillfnmaiiapaa
/-
  A sample of generation 3 is read: the walk.
-/
namespace Go.Proofs.Ytaillfnmaiiapaa
open Go.RowKit
theorem wrap_is (a : Int) : IntKind.i64.wrap a = wrap64 a := by rw [IntKind.wrap_i64]; unfold wrap64; omega
theorem FW.put {base cb g0 : Nat} {W : Nat → Prop} {U V X : World} (h : FW base cb W U V) (hb : base ≤ U.heap.size) (hw : W g0) (hg0 : base ≤ g0) (hg : V.grownBy X (some g0)) : FW base cb W U X :=
  ⟨h.1.grown hg (by have := h.1.size; omega) (fun r e => by obtain rfl : g0 = r := Option.some.inj e; exact hg0), fun g h1 h2 h3 => (hg.block g (by have := h.1.size; omega) (fun e => h3 (by cases e; exact hw))).trans (h.2 g h1 h2 h3)⟩
theorem TV.cur {U V : World} {tb vb cb : Nat} {t : Int} {v : Nat} {s : ByteArray} {bad : Bool} (h : TV U tb vb t v) (hc : CurAt cb s bad U) (hg : U.grownBy V (some cb)) : TV V tb vb t v := ⟨grown_keep h.t hg (cells_ne h.t hc (by decide)), grown_keep h.v hg (cells_ne h.v hc (by decide))⟩
set_option maxRecDepth 100000 in
set_option maxHeartbeats 1000000 in
theorem rdSmp3_any (pb cb tb vb base : Nat) (t : Int) (v : Nat) (hv : v < 18446744073709551616) (c : Wa.Cu) (hc : c.s.size ≤ 1000000000) (hcb : base ≤ cb) (htb : base ≤ tb ∧ base ≤ vb) (w : World) (h : CurAt cb c.s c.bad w) (hp : PtrAt pb cb w) (ht : TV w tb vb t v) (hbs : base ≤ w.heap.size) :
    Calls Try.prog 104 #[.pointer (some ⟨tb, 0, none⟩), .pointer (some ⟨pb, 0, none⟩), .pointer (some ⟨vb, 0, none⟩)] w fun e V => e = .returned (.tuple #[.int .i64 (Wa.rdSmp false t v c).1, .int .u64 (((Wa.rdSmp false t v c).2.1 : Nat) : Int)]) ∧ CurAt cb (Wa.rdSmp false t v c).2.2.s (Wa.rdSmp false t v c).2.2.bad V ∧ PtrAt pb cb V ∧ TV V tb vb (Wa.rdSmp false t v c).1 (Wa.rdSmp false t v c).2.1 ∧ FW base cb (fun g => g = tb ∨ g = vb) w V := by
  have hr : Wa.rdSmp false t v c = (IntKind.i64.wrap (t + Num.zag c.small.1), v ^^^ c.small.2.small.1, c.small.2.small.2) := rfl
  rw [hr]
  have z1 := Wa.small_size c
  have l1 := Wa.small_lt c; have l2 := Wa.small_lt c.small.2
  have HC1 := Lib.hid (cuSmall cb c (by unfold maxLen; omega) · ·)
  have HC2 := Lib.hid (cuSmall cb c.small.2 (by unfold maxLen; omega) · ·)
  obtain ⟨p, hp1⟩ : ∃ p, p = c.small := ⟨_, rfl⟩
  rw [← hp1] at HC1 HC2 l1 l2 ⊢
  clear hp1 z1 hr
  obtain ⟨n1, c1⟩ := p
  simp only at HC1 HC2 l1 l2 ⊢
  obtain ⟨p, hp1⟩ : ∃ p, p = c1.small := ⟨_, rfl⟩
  rw [← hp1] at HC2 l2 ⊢
  clear hp1
  obtain ⟨n2, c2⟩ := p
  simp only at HC2 l2 ⊢
  have HZ := Lib.hid (fun U => Zag_any n1 (Lib.hid l1) U)
  generalize Num.zag n1 = y1 at *
  have exor : bits BinOp.xor .u64 (v : Int) (n2 : Int) = ((v ^^^ n2 : Nat) : Int) := u64_xor_nat _ _ hv l2
  generalize v ^^^ n2 = k2 at *
  obtain ⟨k1, hk1⟩ : ∃ k1, k1 = IntKind.i64.wrap (t + y1) := ⟨_, rfl⟩
  rw [← hk1]
  have hw1 : IntKind.i64.wrap (t + y1) = k1 := hk1.symm
  have hw2 : wrap64 (t + y1) = k1 := by rw [← hw1]; exact (wrap_is _).symm
  have H := Lib.hid h; have HP := Lib.hid hp; have HT := Lib.hid ht; have HBS := Lib.hid hbs; have HTB := Lib.hid htb
  have HNE := Lib.hid (cells_ne hp h (by decide))
  clear h hp hbs ht htb hk1 l1 l2 hv
  go_enter Try.func104, Try.ntmps104
  go_wp2_with fail
  refine plain_robD [(0, some 5), (1, some 6), (2, some 7), (3, some 8), (4, some 9)] [5] (fun _ _ => True) (fun δ U => PtrAt pb cb U ∧ TV U tb vb t v ∧ CurAt cb (if δ 2 = true then c1 else c).s (if δ 2 = true then c1 else c).bad U ∧ FW base cb (fun g => g = tb ∨ g = vb) w U) [(0, .int .i64 t), (1, .pointer (some ⟨cb, 0, none⟩)), (2, .int .u64 (n1 : Int)), (3, .int .i64 y1), (4, .int .i64 k1)] [] 1 (by kernel_rfl) (by kernel_rfl) (by kernel_rfl) (⟨HP.out, HT.out.later (Below.refl _ _).drew, H.out, FW.refl.later HBS.out (Below.refl _ _).drew⟩) ?_ ?_ ?_
  · intro p hp; cases hp
  · refine ⟨⟨_, rfl, fun ν δ U hU h00 h1 h2 hp => ?_⟩, ?_⟩
    · simp only [putsν, Act.put, List.setIfInBounds_toArray, List.set_cons_zero, List.set_cons_succ]
      dsimp only at hU
      exact Yld.value (.int .i64 t) U (by kernel_rfl) (by have h0 : U.cell? ⟨tb, 0, none⟩ = some (.int .i64 t) := cell_of_row _ _ _ _ _ _ hU.2.1.t; go_simp) ⟨trivial, hU, Fx.fixed rfl rfl⟩
    refine ⟨⟨_, rfl, fun ν δ U hU h00 h1 h2 hp => ?_⟩, ?_⟩
    · simp only [putsν, Act.put, List.setIfInBounds_toArray, List.set_cons_zero, List.set_cons_succ]
      dsimp only at hU
      exact Yld.value (.pointer (some ⟨cb, 0, none⟩)) U (by kernel_rfl) (by have h0 : U.cell? ⟨pb, 0, none⟩ = some (.pointer (some ⟨cb, 0, none⟩)) := cell_of_row _ _ _ _ _ _ hU.1; go_simp) ⟨trivial, hU, Fx.fixed rfl rfl⟩
    refine ⟨⟨_, rfl, fun ν δ U hU h00 h1 h2 hp => ?_⟩, ?_⟩
    · simp only [putsν, Act.put, List.setIfInBounds_toArray, List.set_cons_zero, List.set_cons_succ]
      have e1 := (hp 1 (by kernel_rfl) (by kernel_rfl)).val _ rfl
      simp only [e1]
      dsimp only at hU
      have hU1 := hU.2.2.1
      rw [if_neg (by rw [h00]; decide)] at hU1
      refine Yld.call 87 #[.pointer (some ⟨cb, 0, none⟩)] (by kernel_rfl) (by go_simp) ?_
      have hcall := HC1.out U hU1
      refine hcall.mono ?_
      rintro e V ⟨rfl, hc, hg⟩; exact ⟨_, rfl, trivial, ⟨grown_keep hU.1 hg HNE.out, hU.2.1.cur hU1 hg, by rw [if_pos (by simp)]; exact hc, hU.2.2.2.cur HBS.out hcb hg⟩, Fx.fixed rfl rfl⟩
    refine ⟨⟨_, rfl, fun ν δ U hU h00 h1 h2 hp => ?_⟩, ?_⟩
    · simp only [putsν, Act.put, List.setIfInBounds_toArray, List.set_cons_zero, List.set_cons_succ]
      have e2 := (hp 2 (by kernel_rfl) (by kernel_rfl)).val _ rfl
      simp only [e2]
      dsimp only at hU
      refine Yld.call 94 #[.int .u64 (n1 : Int)] (by kernel_rfl) (by go_simp) ?_
      have hcall := HZ.out U
      refine hcall.mono ?_
      rintro e V ⟨rfl, rfl⟩; exact ⟨_, rfl, trivial, hU, Fx.fixed rfl rfl⟩
    refine ⟨⟨_, rfl, fun ν δ U hU h00 h1 h2 hp => ?_⟩, ?_⟩
    · simp only [putsν, Act.put, List.setIfInBounds_toArray, List.set_cons_zero, List.set_cons_succ]
      have e0 := (hp 0 (by kernel_rfl) (by kernel_rfl)).val _ rfl
      have e3 := (hp 3 (by kernel_rfl) (by kernel_rfl)).val _ rfl
      simp only [e0, e3]
      dsimp only at hU
      exact Yld.value (.int .i64 k1) U (by kernel_rfl) (by go_simp) ⟨trivial, hU, Fx.fixed rfl rfl⟩
    trivial
  intro ν δ w2 hS2 hd hf
  have e0 := (hf 0 (by kernel_rfl)).val _ rfl
  have e1 := (hf 1 (by kernel_rfl)).val _ rfl
  have e2 := (hf 2 (by kernel_rfl)).val _ rfl
  have e3 := (hf 3 (by kernel_rfl)).val _ rfl
  have e4 := (hf 4 (by kernel_rfl)).val _ rfl
  simp only [putsν, Act.put, List.setIfInBounds_toArray, List.set_cons_zero, List.set_cons_succ, e0, e1, e2, e3, e4]
  clear hf e0 e1 e2 e3 e4
  rw [if_pos (hd 2 (by kernel_rfl))] at hS2
  obtain ⟨hp2, ht2, hc2, hf2⟩ := hS2
  have y0 := cell_of_row _ _ 0 _ _ _ ht2.t; have f0 := frozen_of_row _ _ 0 _ _ ht2.t
  simp only [List.getElem?_toArray, List.getElem?_cons_zero] at y0
  clear hd
  refine wpAnyT_one (i := 5) (by kernel_rfl) rfl (by kernel_rfl) ?_
  intro K hK
  unfold Oper.wp
  go_simp
  have hgs := grown_setCell w2 tb 0 (.int .i64 k1)
  have HP3 := Lib.hid (grown_keep hp2 hgs (cells_ne hp2 ht2.t (by decide)))
  have HT3 : Hid (TV (w2.setCell ⟨tb, 0, none⟩ (.int .i64 k1)) tb vb k1 v) := Lib.hid ⟨heap_setCell_same w2 tb 0 _ _ _ ht2.t, grown_keep ht2.v hgs (fun e => ht2.ne e.symm)⟩
  have HC3 := Lib.hid (grown_keep hc2 hgs (cells_ne hc2 ht2.t (by decide)))
  have HF3 := Lib.hid (hf2.put HBS.out (.inl rfl) HTB.out.1 hgs)
  obtain ⟨w3, hw3⟩ : ∃ w3, w3 = w2.setCell ⟨tb, 0, none⟩ (.int .i64 k1) := ⟨_, rfl⟩
  rw [← hw3] at HP3 HT3 HC3 HF3 ⊢
  refine hK _ _ (fun _ => trivial) ?_
  clear hK K
  refine wpAnyT_done (by kernel_rfl) ?_ _
  refine only_mk ?_
  clear hgs hp2 ht2 hc2 hf2 y0 f0 hw3
  have HC3' : Hid (CurAt cb c1.s c1.bad w3) := HC3
  go_wp2_with fail
  refine plain_robD [(0, some 10), (1, some 11), (2, some 12), (3, some 13)] [4] (fun _ _ => True) (fun δ U => PtrAt pb cb U ∧ TV U tb vb k1 v ∧ CurAt cb (if δ 2 = true then c2 else c1).s (if δ 2 = true then c2 else c1).bad U ∧ FW base cb (fun g => g = tb ∨ g = vb) w U) [(0, .int .u64 (v : Int)), (1, .pointer (some ⟨cb, 0, none⟩)), (2, .int .u64 (n2 : Int)), (3, .int .u64 (k2 : Int))] [] 1 (by kernel_rfl) (by kernel_rfl) (by kernel_rfl) (⟨HP3.out, HT3.out.later (Below.refl _ _).drew, HC3'.out, HF3.out.later HBS.out (Below.refl _ _).drew⟩) ?_ ?_ ?_
  · intro p hp; cases hp
  · refine ⟨⟨_, rfl, fun ν δ U hU h00 h1 h2 hp => ?_⟩, ?_⟩
    · simp only [putsν, Act.put, List.setIfInBounds_toArray, List.set_cons_zero, List.set_cons_succ]
      dsimp only at hU
      exact Yld.value (.int .u64 (v : Int)) U (by kernel_rfl) (by have h0 : U.cell? ⟨vb, 0, none⟩ = some (.int .u64 (v : Int)) := cell_of_row _ _ _ _ _ _ hU.2.1.v; go_simp) ⟨trivial, hU, Fx.fixed rfl rfl⟩
    refine ⟨⟨_, rfl, fun ν δ U hU h00 h1 h2 hp => ?_⟩, ?_⟩
    · simp only [putsν, Act.put, List.setIfInBounds_toArray, List.set_cons_zero, List.set_cons_succ]
      dsimp only at hU
      exact Yld.value (.pointer (some ⟨cb, 0, none⟩)) U (by kernel_rfl) (by have h0 : U.cell? ⟨pb, 0, none⟩ = some (.pointer (some ⟨cb, 0, none⟩)) := cell_of_row _ _ _ _ _ _ hU.1; go_simp) ⟨trivial, hU, Fx.fixed rfl rfl⟩
    refine ⟨⟨_, rfl, fun ν δ U hU h00 h1 h2 hp => ?_⟩, ?_⟩
    · simp only [putsν, Act.put, List.setIfInBounds_toArray, List.set_cons_zero, List.set_cons_succ]
      have e1 := (hp 1 (by kernel_rfl) (by kernel_rfl)).val _ rfl
      simp only [e1]
      dsimp only at hU
      have hU1 := hU.2.2.1
      rw [if_neg (by rw [h00]; decide)] at hU1
      refine Yld.call 87 #[.pointer (some ⟨cb, 0, none⟩)] (by kernel_rfl) (by go_simp) ?_
      have hcall := HC2.out U hU1
      refine hcall.mono ?_
      rintro e V ⟨rfl, hc, hg⟩; exact ⟨_, rfl, trivial, ⟨grown_keep hU.1 hg HNE.out, hU.2.1.cur hU1 hg, by rw [if_pos (by simp)]; exact hc, hU.2.2.2.cur HBS.out hcb hg⟩, Fx.fixed rfl rfl⟩
    refine ⟨⟨_, rfl, fun ν δ U hU h00 h1 h2 hp => ?_⟩, ?_⟩
    · simp only [putsν, Act.put, List.setIfInBounds_toArray, List.set_cons_zero, List.set_cons_succ]
      have e0 := (hp 0 (by kernel_rfl) (by kernel_rfl)).val _ rfl
      have e2 := (hp 2 (by kernel_rfl) (by kernel_rfl)).val _ rfl
      simp only [e0, e2]
      dsimp only at hU
      exact Yld.value (.int .u64 (k2 : Int)) U (by kernel_rfl) (by go_simp) ⟨trivial, hU, Fx.fixed rfl rfl⟩
    trivial
  intro ν δ w4 hS4 hd hf
  have e0 := (hf 0 (by kernel_rfl)).val _ rfl
  have e1 := (hf 1 (by kernel_rfl)).val _ rfl
  have e2 := (hf 2 (by kernel_rfl)).val _ rfl
  have e3 := (hf 3 (by kernel_rfl)).val _ rfl
  simp only [putsν, Act.put, List.setIfInBounds_toArray, List.set_cons_zero, List.set_cons_succ, e0, e1, e2, e3]
  clear hf e0 e1 e2 e3
  rw [if_pos (hd 2 (by kernel_rfl))] at hS4
  obtain ⟨hp2, ht2, hc2, hf2⟩ := hS4
  have y0 := cell_of_row _ _ 0 _ _ _ ht2.v; have f0 := frozen_of_row _ _ 0 _ _ ht2.v
  simp only [List.getElem?_toArray, List.getElem?_cons_zero] at y0
  clear hd
  refine wpAnyT_one (i := 4) (by kernel_rfl) rfl (by kernel_rfl) ?_
  intro K hK
  unfold Oper.wp
  go_simp
  have hgs := grown_setCell w4 vb 0 (.int .u64 (k2 : Int))
  have HP5 := Lib.hid (grown_keep hp2 hgs (cells_ne hp2 ht2.v (by decide)))
  have HT5 : Hid (TV (w4.setCell ⟨vb, 0, none⟩ (.int .u64 (k2 : Int))) tb vb k1 k2) := Lib.hid ⟨grown_keep ht2.t hgs ht2.ne, heap_setCell_same w4 vb 0 _ _ _ ht2.v⟩
  have HC5 := Lib.hid (grown_keep hc2 hgs (cells_ne hc2 ht2.v (by decide)))
  have HF5 := Lib.hid (hf2.put HBS.out (.inr rfl) HTB.out.2 hgs)
  obtain ⟨w5, hw5⟩ : ∃ w5, w5 = w4.setCell ⟨vb, 0, none⟩ (.int .u64 (k2 : Int)) := ⟨_, rfl⟩
  rw [← hw5] at HP5 HT5 HC5 HF5 ⊢
  refine hK _ _ (fun _ => trivial) ?_
  clear hK K
  refine wpAnyT_done (by kernel_rfl) ?_ _
  refine only_mk ?_
  clear hgs hp2 ht2 hc2 hf2 y0 f0 hw5
  have y0 := cell_of_row _ _ 0 _ _ _ HT5.out.t; have y1' := cell_of_row _ _ 0 _ _ _ HT5.out.v
  simp only [List.getElem?_toArray, List.getElem?_cons_zero] at y0 y1'
  go_wp2_with fail
  go_region
  go_wp2_with fail
  go_ret2
  exact ⟨rfl, HC5.out, HP5.out, ⟨HT5.out.t, HT5.out.v⟩, HF5.out.later HBS.out (Below.refl _ _).drew⟩
end Go.Proofs.Ytaillfnmaiiapaa
/-
  What bytes begin with, in generation 3: what goes on meanwhile.
-/
namespace Go.Proofs.Ytaillfnmaiiapaa
open Go.RowKit
/-- samples of generation 3 -/
theorem smp3 {base cb pb tb vb : Nat} (hcb : base ≤ cb) (htb : base ≤ tb ∧ base ≤ vb) : Smp base cb (fun g => g = tb ∨ g = vb) (fun t v U => PtrAt pb cb U ∧ TV U tb vb t v) false 104 #[.pointer (some ⟨tb, 0, none⟩), .pointer (some ⟨pb, 0, none⟩), .pointer (some ⟨vb, 0, none⟩)] 1000000000 where
  enter := fun args U => by kernel_rfl
  keep := fun t v U V h hk => ⟨hk pb _ _ h.1 (.inr (.inr rfl)), hk tb _ _ h.2.t (.inl rfl), hk vb _ _ h.2.v (.inr (.inl rfl))⟩
  own := fun t v U h g hg => by
    rcases hg with rfl | rfl
    · exact ⟨htb.1, _, _, h.2.t, .inl rfl⟩
    · exact ⟨htb.2, _, _, h.2.v, .inr rfl⟩
  does := fun t v U c hv hc hm hi hb => by
    refine (rdSmp3_any pb cb tb vb base t v hv c hm hcb htb U hc hi.1 hi.2 hb).mono ?_
    rintro e V ⟨rfl, h1, h2, h3, h4⟩
    exact ⟨rfl, h1, ⟨h2, h3⟩, h4⟩
theorem Wa.small_less {c : Wa.Cu} (h : c.small.2.bad = false) : c.bad = false ∧ c.small.2.s.size + 1 ≤ c.s.size := by
  unfold Wa.Cu.small Wa.Cu.go at h ⊢
  simp only [Bool.or_eq_false_iff, Bool.not_eq_false'] at h
  refine ⟨h.1, ?_⟩
  have h1 := Fr.num_ok_pos c.s h.2
  have h2 := Fr.num_le_size c.s
  unfold Num.curV
  show (if (c.bad || !(Fr.num c.s).2.2) = true then c.s else c.s.extract (Fr.num c.s).2.1 c.s.size).size + 1 ≤ _
  rw [h.1, h.2]
  rw [if_neg (by simp), ByteArray.size_extract]
  omega
theorem Wa.small_bad {c : Wa.Cu} (h : c.small.2.bad = false) : c.bad = false := by
  unfold Wa.Cu.small Wa.Cu.go at h
  simp only [Bool.or_eq_false_iff] at h
  exact h.1
theorem Wa.wide_bad {c : Wa.Cu} (h : c.wide.2.bad = false) : c.bad = false := by
  unfold Wa.Cu.wide Wa.Cu.go at h
  simp only [Bool.or_eq_false_iff] at h
  exact h.1
theorem Wa.rdSer_bad2 {K : List ByteArray} {c : Wa.Cu} (h : (Wa.rdSer K c).2.2.bad = false) : c.bad = false := by
  unfold Wa.rdSer at h
  split at h
  · rename_i h1
    exact Wa.small_bad h1.1
  · split at h
    · cases h
    · exact Wa.small_bad h
theorem Wa.rdSmp_bad {two : Bool} {t : Int} {v : Nat} {c : Wa.Cu} (h : (Wa.rdSmp two t v c).2.2.bad = false) : c.bad = false ∧ (Wa.rdSmp two t v c).2.2.s.size ≤ c.s.size := by
  have h1 := Wa.small_size c
  unfold Wa.rdSmp at h ⊢
  split at h
  · rename_i h2
    rw [if_pos h2]
    refine ⟨Wa.small_bad (Wa.wide_bad h), Nat.le_trans (Wa.wide_size2 _) h1⟩
  · rename_i h2
    rw [if_neg h2]
    exact ⟨Wa.small_bad (Wa.small_bad h), Nat.le_trans (Wa.small_size _) h1⟩
theorem Wa.rd_less {two : Bool} {K : List ByteArray} {t : Int} {v : Nat} {c : Wa.Cu} (h : (Wa.rd two K t v c).2.2.bad = false) : c.bad = false ∧ (Wa.rd two K t v c).2.2.s.size + 1 ≤ c.s.size := by
  have hs := Wa.rdSer_size K c.small.2
  unfold Wa.rd at h ⊢
  by_cases h0 : Wa.i64 c.small.1 = 0
  · rw [if_pos h0] at h ⊢
    obtain ⟨h1, h2⟩ := Wa.rdSmp_bad h
    obtain ⟨h3, h4⟩ := Wa.small_less (Wa.rdSer_bad2 h1)
    exact ⟨h3, by dsimp only; omega⟩
  · rw [if_neg h0] at h ⊢
    by_cases h1 : Wa.i64 c.small.1 = 1
    · rw [if_pos h1] at h ⊢
      have a1 := Wa.small_size (Wa.rdSer K c.small.2).2.2
      have a2 := Wa.small_size (Wa.rdSer K c.small.2).2.2.small.2
      obtain ⟨h3, h4⟩ := Wa.small_less (Wa.rdSer_bad2 (Wa.small_bad (Wa.small_bad h)))
      exact ⟨h3, by dsimp only; omega⟩
    · rw [if_neg h1] at h ⊢
      by_cases h2 : Wa.i64 c.small.1 = 2
      · rw [if_pos h2] at h ⊢
        have a1 := Wa.small_size c.small.2
        obtain ⟨h3, h4⟩ := Wa.small_less (Wa.small_bad h)
        exact ⟨h3, by dsimp only; omega⟩
      · rw [if_neg h2] at h
        cases h
theorem Wa.rd_size (two : Bool) (K : List ByteArray) (t : Int) (v : Nat) (c : Wa.Cu) : (Wa.rd two K t v c).2.2.s.size ≤ c.s.size := by
  have hs := Wa.rdSer_size K c.small.2
  have h1 := Wa.small_size c
  unfold Wa.rd
  by_cases h0 : Wa.i64 c.small.1 = 0
  · rw [if_pos h0]
    have h2 := Wa.small_size (Wa.rdSer K c.small.2).2.2
    have h3 := Wa.small_size (Wa.rdSer K c.small.2).2.2.small.2
    have h4 := Wa.wide_size2 (Wa.rdSer K c.small.2).2.2.small.2
    show (Wa.rdSmp two t v (Wa.rdSer K c.small.2).2.2).2.2.s.size ≤ _
    unfold Wa.rdSmp
    split
    · dsimp only; omega
    · dsimp only; omega
  · rw [if_neg h0]
    by_cases h1' : Wa.i64 c.small.1 = 1
    · rw [if_pos h1']
      have a1 := Wa.small_size (Wa.rdSer K c.small.2).2.2
      have a2 := Wa.small_size (Wa.rdSer K c.small.2).2.2.small.2
      dsimp only; omega
    · rw [if_neg h1']
      by_cases h2 : Wa.i64 c.small.1 = 2
      · rw [if_pos h2]
        have a1 := Wa.small_size c.small.2
        dsimp only; omega
      · rw [if_neg h2]
        exact h1
theorem Wa.rdSer_keys {K : List ByteArray} {c : Wa.Cu} {m : Nat} (hK : ∀ k ∈ K, k.size ≤ m) (hc : c.s.size ≤ m) : (Wa.rdSer K c).2.1.length ≤ K.length + 1 ∧ ∀ k ∈ (Wa.rdSer K c).2.1, k.size ≤ m := by
  have h1 := Wa.small_size c
  have h2 := Wa.text_size c.small.2 c.small.2.s.size
  have hn : ∀ k ∈ K ++ [(c.small.2.text c.small.2.s.size).1], k.size ≤ m := fun k hk => by
    rcases List.mem_append.1 hk with h | h
    · exact hK k h
    · rw [List.mem_singleton.1 h]; omega
  unfold Wa.rdSer
  split
  · split
    · exact ⟨Nat.le_succ _, hK⟩
    · split
      · exact ⟨by rw [List.length_append]; exact Nat.le_refl _, hn⟩
      · exact ⟨by rw [List.length_append]; exact Nat.le_refl _, hn⟩
  · split
    · exact ⟨Nat.le_succ _, hK⟩
    · exact ⟨Nat.le_succ _, hK⟩
theorem Wa.rd_keys {two : Bool} {K : List ByteArray} {t : Int} {v : Nat} {c : Wa.Cu} {m : Nat} (hK : ∀ k ∈ K, k.size ≤ m) (hc : c.s.size ≤ m) : (Wa.rd two K t v c).2.1.length ≤ K.length + 1 ∧ ∀ k ∈ (Wa.rd two K t v c).2.1, k.size ≤ m := by
  have h := Wa.rdSer_keys (K := K) (c := c.small.2) hK (Nat.le_trans (Wa.small_size c) hc)
  unfold Wa.rd
  by_cases h0 : Wa.i64 c.small.1 = 0
  · rw [if_pos h0]; exact h
  · rw [if_neg h0]
    by_cases h1 : Wa.i64 c.small.1 = 1
    · rw [if_pos h1]; exact h
    · rw [if_neg h1]
      by_cases h2 : Wa.i64 c.small.1 = 2
      · rw [if_pos h2]; exact ⟨Nat.le_succ _, hK⟩
      · rw [if_neg h2]; exact ⟨Nat.le_succ _, hK⟩
/-- what a step leaves of the last sample is what rd told -/
theorem Wa.step3_tv (z : Wa.St3) : Wa.step3 z = ⟨z.l ++ [(Wa.rd false z.K z.t z.v z.c).1], (Wa.rd false z.K z.t z.v z.c).2.1, Wa.rdT false z.K z.t z.v z.c, Wa.rdV false z.K z.t z.v z.c, (Wa.rd false z.K z.t z.v z.c).2.2⟩ := by
  have e : ∀ c : Wa.Cu, (Wa.nextT (Wa.rd false z.K z.t z.v c).1 z.t = Wa.rdT false z.K z.t z.v c) ∧ (Wa.nextV (Wa.rd false z.K z.t z.v c).1 z.v = Wa.rdV false z.K z.t z.v c) := fun c => by
    unfold Wa.nextT Wa.nextV Wa.rdT Wa.rdV Wa.rd
    by_cases h0 : Wa.i64 c.small.1 = 0
    · rw [if_pos h0, if_pos h0, if_pos h0]; exact ⟨rfl, rfl⟩
    · rw [if_neg h0, if_neg h0, if_neg h0]
      by_cases h1 : Wa.i64 c.small.1 = 1
      · rw [if_pos h1]; exact ⟨rfl, rfl⟩
      · rw [if_neg h1]
        by_cases h2 : Wa.i64 c.small.1 = 2
        · rw [if_pos h2]; exact ⟨rfl, rfl⟩
        · rw [if_neg h2]
          dsimp only
          rw [if_neg h0, if_neg h0]; exact ⟨rfl, rfl⟩
  unfold Wa.step3
  rw [(e z.c).1, (e z.c).2]
theorem Wa.run3_stop {n f : Nat} {z : Wa.St3} (h : ¬(z.l.length < n ∧ z.c.bad = false)) : Wa.run3 n f z = z := by
  cases f with
  | zero => rfl
  | succ f => unfold Wa.run3; rw [if_neg h]
theorem Wa.run3_go {n f : Nat} {z : Wa.St3} (h : z.l.length < n ∧ z.c.bad = false) : Wa.run3 n (f + 1) z = Wa.run3 n f (Wa.step3 z) := by
  show (if z.l.length < n ∧ z.c.bad = false then Wa.run3 n f (Wa.step3 z) else z) = _
  rw [if_pos h]
/-- a row that such a state leaves -/
theorem RdAt.own_keeps {w : World} {base nb mb cb : Nat} {W : Nat → Prop} {I : Int → Nat → World → Prop} {two : Bool} {F : FuncId} {cap : Array Value} {m : Nat} {K K2 : List ByteArray} {c c2 : Wa.Cu} {t t2 : Int} {v v2 : Nat} {V : World} (hs : Smp base cb W I two F cap m) (h0 : RdAt w base nb mb cb W I K c t v w) (h : RdAt w base nb mb cb W I K2 c2 t2 v2 V) {b e k n : Nat} {x : Value} {xs : List Value} (ho : w.ownsRow b e k x n xs)
    (hT : e ≠ 2 ∧ e ≠ 50 ∧ e ≠ 131 ∧ e ≠ 78 ∧ e ≠ 9) : V.ownsRow b e k x n xs := by
  refine ⟨ho.1, ?_⟩
  rcases ho.2 with h1 | ⟨g, cap2, cur, rfl, hb, hc, hx⟩
  · exact Or.inl h1
  · refine Or.inr ⟨g, cap2, cur, rfl, hb, h.nk g _ hc ?_ (fun hw => ?_) (fun cs T fr e2 => by cases e2; exact ⟨hT.2.2.2.1, hT.2.2.2.2, hT.2.2.1⟩), hx⟩
    · rintro rfl
      exact h0.mc _ _ _ hc
    · obtain ⟨-, cs2, T2, h2, h3⟩ := hs.own _ _ _ h0.st g hw
      rw [hc] at h2
      cases h2
      rcases h3 with e | e
      · exact hT.1 e
      · exact hT.2.1 e
end Go.Proofs.Ytaillfnmaiiapaa
/-
  What bytes begin with, in generation 3: the walk of take.
-/
namespace Go.Proofs.Ytaillfnmaiiapaa
open Go.RowKit
theorem infoRec : (Try.prog.info? 52).map (fun i => (i.zero, i.size, i.bytes)) = some (some (.agg #[.int .i64 0, .slice none 0 0, .int .i64 0, .int .i64 0, .int .u64 0]), 5, 56) := by kernel_rfl
theorem rx_one (q : Nat → RAt) (i j : Nat) : (rx q i j).oneCell' = true := by
  unfold rx
  split <;> rfl
theorem Wa.take3_not {K : List ByteArray} {s : ByteArray} (h : (Fr.get s 20000).2.2 ≠ 0) : Wa.take3 K s = ([], K, s, (Fr.get s 20000).2.2) := by unfold Wa.take3; rw [if_neg h]
theorem Wa.take3_in {K : List ByteArray} {s : ByteArray} (h : (Fr.get s 20000).2.2 = 0) : Wa.take3 K s =
    (if (Wa.Cu.small ⟨(Fr.get s 20000).1, false⟩).1 ≠ 0 ∧ (Wa.did3 K (Fr.get s 20000).1).c.s.size = 0 ∧ (Wa.did3 K (Fr.get s 20000).1).c.bad = false then
      ((Wa.did3 K (Fr.get s 20000).1).l, (Wa.did3 K (Fr.get s 20000).1).K, (Fr.get s 20000).2.1, 0)
    else ([], (Wa.did3 K (Fr.get s 20000).1).K, s, 2)) := by unfold Wa.take3; rw [if_pos h]
/-- what a reading of samples of generation 3 holds -/
def W3 (tb vb : Nat) (g : Nat) : Prop := g = tb ∨ g = vb
def I3 (pb cb tb vb : Nat) (t : Int) (v : Nat) (U : World) : Prop := PtrAt pb cb U ∧ TV U tb vb t v
theorem smp3' {base cb pb tb vb : Nat} (hcb : base ≤ cb) (htb : base ≤ tb ∧ base ≤ vb) : Smp base cb (W3 tb vb) (I3 pb cb tb vb) false 104 #[.pointer (some ⟨tb, 0, none⟩), .pointer (some ⟨pb, 0, none⟩), .pointer (some ⟨vb, 0, none⟩)] 1000000000 := smp3 hcb htb
theorem RdAt.trans {w wr U : World} {base nb mb cb : Nat} {W : Nat → Prop} {I : Int → Nat → World → Prop} {K K2 : List ByteArray} {c c2 : Wa.Cu} {t t2 : Int} {v v2 : Nat} (h : RdAt w base nb mb cb W I K c t v wr) (h2 : RdAt wr base nb mb cb W I K2 c2 t2 v2 U) : RdAt w base nb mb cb W I K2 c2 t2 v2 U :=
  ⟨h2.nam, h2.cur, h2.st, h.nk.trans h2.nk, h.bel.trans h2.bel, h2.cbl, h.bs⟩
theorem RdAt.here {w wr : World} {base nb mb cb : Nat} {W : Nat → Prop} {I : Int → Nat → World → Prop} {K : List ByteArray} {c : Wa.Cu} {t : Int} {v : Nat} (h : RdAt w base nb mb cb W I K c t v wr) : RdAt wr base nb mb cb W I K c t v wr :=
  ⟨h.nam, h.cur, h.st, fun _ _ ho _ _ _ => ho, Below.refl _ _, h.cbl, h.size⟩
/-- reading at work: changes that were read -/
structure Took3 (w : World) (base nb mb cb pb tb vb : Nat) (K0 : List ByteArray) (m : Nat) (q : Nat → RAt) (z : Wa.St3) (lv : Value) (U : World) : Prop where
  at_ : RdAt w base nb mb cb (W3 tb vb) (I3 pb cb tb vb) z.K z.c z.t z.v U
  row : U.ownsRow w.heap.size 52 5 lv z.l.length (rcells 5 (rx q) z.l.length)
  list : z.l = (List.range z.l.length).map (recF q)
  each : ∀ i, i < z.l.length → RecOwn U base (q i)
  vlt : z.v < 18446744073709551616
  len : z.l.length ≤ m + 1
  left : z.c.bad = false → z.l.length + z.c.s.size ≤ m
  size : z.c.s.size ≤ m
  klen : z.K.length ≤ K0.length + z.l.length
  kall : ∀ k ∈ z.K, k.size ≤ maxLen
def qMore (q : Nat → RAt) (n : Nat) (x : RAt) (i : Nat) : RAt := if i = n then x else q i
theorem rx_more (q : Nat → RAt) (n : Nat) (x : RAt) : rcells 5 (rx q) n ++ rcells 5 (fun _ j => rx (fun _ => x) 0 j) 1 = rcells 5 (rx (qMore q n x)) (n + 1) := by
  rw [rcells_succ 5 (rx (qMore q n x)) n]
  congr 1
  · refine rcells_congr _ fun i hi j _ => ?_
    have : qMore q n x i = q i := if_neg (by omega)
    unfold rx
    rw [this]
  · have : qMore q n x n = x := if_pos rfl
    show (List.range 5).map (rx (fun _ => x) 0) ++ [] = _
    rw [List.append_nil]
    refine List.map_congr_left fun j _ => ?_
    unfold rx
    rw [this]
/-- another change was read -/
theorem Took3.more {w : World} {base nb mb cb pb tb vb : Nat} {K0 : List ByteArray} {m : Nat} {q : Nat → RAt} {z : Wa.St3} {lv : Value} {wr U U2 V : World} (h : Took3 w base nb mb cb pb tb vb K0 m q z lv wr) (hcb : base ≤ cb) (htb : base ≤ tb ∧ base ≤ vb) (hm : m ≤ 1000000) (hbad : z.c.bad = false) {A : Option Addr} {cc : Nat} {lv2 : Value}
    (hr : RdAt wr base nb mb cb (W3 tb vb) (I3 pb cb tb vb) (Wa.rd false z.K z.t z.v z.c).2.1 (Wa.rd false z.K z.t z.v z.c).2.2 (Wa.rdT false z.K z.t z.v z.c) (Wa.rdV false z.K z.t z.v z.c) U)
    (ho : U.ownsRow base 54 2 (.slice A (Wa.rd false z.K z.t z.v z.c).1.l.length cc) (Wa.rd false z.K z.t z.v z.c).1.l.length (labCells (Wa.rd false z.K z.t z.v z.c).1.l))
    (hU2 : Below U.heap.size U U2)
    (hV : V.ownsRow w.heap.size 52 5 lv2 (z.l.length + 1) (rcells 5 (rx q) z.l.length ++ rcells 5 (fun _ j => rx (fun _ => ⟨(Wa.rd false z.K z.t z.v z.c).1, A, cc⟩) 0 j) 1))
    (hg : U2.grownBy V lv.ownBlock) : Took3 w base nb mb cb pb tb vb K0 m (qMore q z.l.length ⟨(Wa.rd false z.K z.t z.v z.c).1, A, cc⟩) (Wa.step3 z) lv2 V := by
  have hs := smp3' (pb := pb) hcb htb
  have hU := h.at_.trans hr
  have hrow := RdAt.own_keeps hs h.at_.here hr h.row (by decide)
  have hrow2 := row_far hrow hU2
  have hU2' := hU.later hs hU2
  have hAt : RdAt w base nb mb cb (W3 tb vb) (I3 pb cb tb vb) (Wa.rd false z.K z.t z.v z.c).2.1 (Wa.rd false z.K z.t z.v z.c).2.2 (Wa.rdT false z.K z.t z.v z.c) (Wa.rdV false z.K z.t z.v z.c) V := by
    rcases hrow2.2 with ⟨e, -⟩ | ⟨g, c, cur, e, hb, hc, -⟩
    · rw [e] at hg
      exact hU2'.later hs ⟨hg.os, hg.tape, hg.output, hg.size, fun k hk => hg.block k hk (fun e => by cases e)⟩
    · rw [e] at hg
      exact hU2'.put hs hc hb hg
  have lab : ∀ {x : Value} {n : Nat} {xs : List Value}, wr.ownsRow base 54 2 x n xs → V.ownsRow base 54 2 x n xs := fun hx => by
    have h1 := row_far (RdAt.own_keeps hs h.at_.here hr hx (by decide)) hU2
    refine row_kept h1 hg (fun r e => ?_)
    exact row_apart h1 hrow2 (by decide) e
  have labU : ∀ {x : Value} {n : Nat} {xs : List Value}, U.ownsRow base 54 2 x n xs → V.ownsRow base 54 2 x n xs := fun hx => by
    have h1 := row_far hx hU2
    exact row_kept h1 hg (fun r e => row_apart h1 hrow2 (by decide) e)
  have hsm := Wa.rd_small false z.K z.t z.v z.c h.vlt
  have hrs := Wa.rd_size false z.K z.t z.v z.c
  have hz := h.size
  have hks := Wa.rd_keys (two := false) (t := z.t) (v := z.v) (c := z.c) h.kall (by unfold maxLen; omega)
  have el : (z.l ++ [(Wa.rd false z.K z.t z.v z.c).1]).length = z.l.length + 1 := by simp
  have hlen : z.l.length + z.c.s.size ≤ m := h.left hbad
  rw [Wa.step3_tv]
  refine ⟨hAt, ?_, ?_, ?_, hsm.2.2.2, ?_, ?_, ?_, ?_, hks.2⟩
  · show V.ownsRow w.heap.size 52 5 lv2 (z.l ++ [_]).length _
    rw [el, ← rx_more]
    exact hV
  · show z.l ++ [(Wa.rd false z.K z.t z.v z.c).1] = _
    rw [el, List.range_succ, List.map_append]
    congr 1
    · refine h.list.trans (List.map_congr_left fun i hi => ?_)
      have : i < z.l.length := List.mem_range.1 hi
      unfold recF qMore
      rw [if_neg (by omega)]
    · show _ = [recF _ z.l.length]
      unfold recF qMore
      rw [if_pos rfl]
  · intro i hi
    have hi' : i < z.l.length + 1 := by rw [← el]; exact hi
    unfold qMore
    by_cases e : i = z.l.length
    · rw [if_pos e]
      have h2 := labU ho
      obtain ⟨A2, c2, e2, -, -, hl⟩ := own_lab h2
      cases e2
      exact ⟨⟨hl, by have := hsm.1; show (Wa.rd false z.K z.t z.v z.c).1.l.length ≤ 10; omega, hsm.2.1, hsm.2.2.1⟩, h2⟩
    · rw [if_neg e]
      exact (h.each i (by omega)).of_own (lab (h.each i (by omega)).own)
  · show (z.l ++ [_]).length ≤ m + 1
    rw [el]; omega
  · intro hb
    have := (Wa.rd_less (two := false) (K := z.K) (t := z.t) (v := z.v) (c := z.c) hb).2
    show (z.l ++ [_]).length + _ ≤ m
    rw [el]
    show z.l.length + 1 + (Wa.rd false z.K z.t z.v z.c).2.2.s.size ≤ m
    omega
  · show (Wa.rd false z.K z.t z.v z.c).2.2.s.size ≤ m
    omega
  · show (Wa.rd false z.K z.t z.v z.c).2.1.length ≤ K0.length + (z.l ++ [_]).length
    rw [el]
    have := h.klen
    have := hks.1
    omega
end Go.Proofs.Ytaillfnmaiiapaa
/-
  What bytes begin with, in generation 3: the walk of take, itself.
-/
namespace Go.Proofs.Ytaillfnmaiiapaa
open Go.RowKit
theorem RdAt.cell_keeps {w : World} {base nb mb cb : Nat} {W : Nat → Prop} {I : Int → Nat → World → Prop} {two : Bool} {F : FuncId} {cap : Array Value} {m : Nat} {K K2 : List ByteArray} {c c2 : Wa.Cu} {t t2 : Int} {v v2 : Nat} {V : World} (hs : Smp base cb W I two F cap m) (h0 : RdAt w base nb mb cb W I K c t v w) (h : RdAt w base nb mb cb W I K2 c2 t2 v2 V) {g : Nat} {cs : Array Value} {e : TypeId} {fr : Nat × Nat} (hc : w.heap[g]? = some (.cells cs e fr))
    (hT : e ≠ 2 ∧ e ≠ 50 ∧ e ≠ 131 ∧ e ≠ 78 ∧ e ≠ 9) : V.heap[g]? = some (.cells cs e fr) := by
  refine h.nk g _ hc ?_ (fun hw => ?_) (fun cs T fr e2 => by cases e2; exact ⟨hT.2.2.2.1, hT.2.2.2.2, hT.2.2.1⟩)
  · rintro rfl
    exact h0.mc _ _ _ hc
  · obtain ⟨-, cs2, T2, h2, h3⟩ := hs.own _ _ _ h0.st g hw
    rw [hc] at h2
    cases h2
    rcases h3 with e | e
    · exact hT.1 e
    · exact hT.2.1 e
theorem Wa.isEmpty_done (s : ByteArray) (bad : Bool) : (s.toList.isEmpty && !bad) = decide (s.size = 0 ∧ bad = false) := by
  rw [La.isEmpty_eq s]
  cases bad <;> simp
def lenOf : Value → Nat
  | .slice _ n _ => n
  | _ => 0
set_option maxRecDepth 100000 in
set_option maxHeartbeats 4000000 in
theorem take3_any (s : ByteArray) (hs : s.size ≤ 1000000) {w : World} {base nb mb : Nat} {v : Value} {K : List ByteArray} (h : NamesIn w base nb mb v K) (hK : K.length ≤ 800000) (hks : ∀ k ∈ K, k.size ≤ maxLen) :
    Calls Try.prog 101 #[.agg #[.pointer (some ⟨nb, 0, none⟩)], .string s] w (TookEnd w base nb mb (Wa.take3 K s)) := by
  have H := Lib.hid h
  have hbs : base ≤ w.heap.size := by have h1 := (Array.getElem?_eq_some_iff.1 h.cells).1; have h2 := h.nlo; omega
  have HBS := Lib.hid hbs; have HKS := Lib.hid hks
  have HG := Lib.hid (fun W => Get_any s (by unfold maxLen; omega) 20000 (Lib.hid (by decide)) W)
  have hno := Wa.take3_not (K := K) (s := s); have hin := Wa.take3_in (K := K) (s := s)
  have hgs : (Fr.get s 20000).2.2 = 0 → ((Fr.get s 20000).1.size : Int) ≤ 20000 := fun h => (Fr.get_whole s 20000 h).2
  obtain ⟨G, hG⟩ : ∃ G, G = Fr.get s 20000 := ⟨_, rfl⟩
  rw [← hG] at HG hno hin hgs
  clear hG h hbs hks
  obtain ⟨b, rest, shape⟩ := G
  simp only at HG hno hin hgs
  by_cases hsh : shape = 0
  · subst hsh
    have hX := hin rfl
    have hbz := hgs rfl
    rw [hX]
    clear hno hin hgs hX
    have HSM := Lib.hid (fun U cb hc => cuSmall cb ⟨b, false⟩ (by unfold maxLen; show b.size ≤ _; omega) U hc)
    have zc := Wa.small_size ⟨b, false⟩
    have ln := Wa.small_lt ⟨b, false⟩
    have hrun : Wa.did3 K b = Wa.run3 (Wa.Cu.small ⟨b, false⟩).1 (b.size + 1) ⟨[], K, 0, 0, (Wa.Cu.small ⟨b, false⟩).2⟩ := rfl
    obtain ⟨R, hR⟩ : ∃ R, R = Wa.did3 K b := ⟨_, rfl⟩
    rw [← hR] at hrun ⊢
    clear hR
    obtain ⟨p, hp⟩ : ∃ p, p = Wa.Cu.small ⟨b, false⟩ := ⟨_, rfl⟩
    rw [← hp] at hrun HSM zc ln ⊢
    clear hp
    obtain ⟨n, c0⟩ := p
    simp only at hrun HSM zc ln ⊢
    have HRUN := Lib.hid hrun
    obtain ⟨X, hXX⟩ : ∃ X : List Wa.Rec × List ByteArray × ByteArray × Nat, X = if n ≠ 0 ∧ R.c.s.size = 0 ∧ R.c.bad = false then (R.l, R.K, rest, 0) else ([], R.K, s, 2) := ⟨_, rfl⟩
    rw [← hXX]
    have HX := Lib.hid hXX
    have HLN := Lib.hid ln
    clear hXX hrun ln
    go_enter Try.func101, Try.ntmps101
    go_wp2_with fail
    have HA := Lib.hid ((Below.refl w.heap.size w).alloc (Nat.le_refl _) (.cells #[.pointer (some ⟨nb, 0, none⟩)] 83))
    have hxa := heap_alloc_new w (.cells #[.pointer (some ⟨nb, 0, none⟩)] 83)
    refine (HG.out _).mono ?_; rintro e w1 ⟨rfl, hb1⟩
    have hx1 := heap_keep hxa hb1
    have HB1 := Lib.hid (below_step HA.out hb1)
    have hb2 : Below w1.heap.size w1 ((w1.alloc (.cells #[.string b, .bool false] 131)).alloc (.cells #[.pointer (some ⟨w1.heap.size, 0, none⟩)] 137)) := ((Below.refl _ _).alloc (Nat.le_refl _) _).alloc (by simp) _
    have hcu : CurAt w1.heap.size b false ((w1.alloc (.cells #[.string b, .bool false] 131)).alloc (.cells #[.pointer (some ⟨w1.heap.size, 0, none⟩)] 137)) := heap_alloc2_old w1 _ _
    have hpt : PtrAt (w1.heap.size + 1) w1.heap.size ((w1.alloc (.cells #[.string b, .bool false] 131)).alloc (.cells #[.pointer (some ⟨w1.heap.size, 0, none⟩)] 137)) := heap_alloc2_new w1 _ _
    obtain ⟨w2, hw2⟩ : ∃ w2, w2 = (w1.alloc (.cells #[.string b, .bool false] 131)).alloc (.cells #[.pointer (some ⟨w1.heap.size, 0, none⟩)] 137) := ⟨_, rfl⟩
    rw [← hw2] at hb2 hcu hpt
    have hsz2 : w2.heap.size = w1.heap.size + 1 + 1 := by rw [hw2]; simp
    obtain ⟨pb, hpb⟩ : ∃ pb, pb = w1.heap.size + 1 := ⟨_, rfl⟩
    obtain ⟨cb, hcb⟩ : ∃ cb, cb = w1.heap.size := ⟨_, rfl⟩
    rw [← hpb, ← hcb] at hpt
    rw [← hcb] at hcu
    have hx2 := heap_keep hx1 hb2
    have HB2 := Lib.hid (below_step HB1.out hb2)
    have HCB : Hid (base ≤ cb) := Lib.hid (by have h1 := HB1.out.size; have h2 := HBS.out; omega)
    have hb3 : Below w2.heap.size w2 ((w2.alloc (.cells #[.int .i64 0] 2)).alloc (.cells #[.int .u64 0] 50)) := ((Below.refl _ _).alloc (Nat.le_refl _) _).alloc (by simp) _
    have htv : TV ((w2.alloc (.cells #[.int .i64 0] 2)).alloc (.cells #[.int .u64 0] 50)) w2.heap.size (w2.heap.size + 1) 0 0 := ⟨heap_alloc2_old w2 _ _, heap_alloc2_new w2 _ _⟩
    obtain ⟨w3, hw3⟩ : ∃ w3, w3 = (w2.alloc (.cells #[.int .i64 0] 2)).alloc (.cells #[.int .u64 0] 50) := ⟨_, rfl⟩
    rw [← hw3, hsz2] at htv
    rw [← hw3] at hb3
    obtain ⟨vb, hvb⟩ : ∃ vb, vb = w1.heap.size + 1 + 1 + 1 := ⟨_, rfl⟩
    obtain ⟨tb, htb⟩ : ∃ tb, tb = w1.heap.size + 1 + 1 := ⟨_, rfl⟩
    rw [← hvb, ← htb] at htv
    have HTB : Hid (w.heap.size ≤ tb ∧ w.heap.size ≤ vb) := Lib.hid (by have h1 := HB1.out.size; omega)
    have hx3 := heap_keep hx2 hb3; have hpt3 := heap_keep hpt hb3; have hcu3 := heap_keep hcu hb3
    have HB3 := Lib.hid (below_step HB2.out hb3)
    have HX3 := Lib.hid hx3; have HTV := Lib.hid htv; have HPT := Lib.hid hpt3; have HCU := Lib.hid hcu3
    have y1 := cell_of_row _ _ 0 _ _ _ hpt3
    simp only [List.getElem?_toArray, List.getElem?_cons_zero] at y1
    clear hxa hx1 hx2 hb1 hb2 hcu hpt HA hb3 htv hx3 hpt3 hcu3
    go_upto_region 8 with fail
    rw [← hw2, ← hw3, ← hvb, ← htb, ← hpb]
    clear hw2 hw3 hvb htb hpb hcb hsz2
    have HR3 : Hid (RdAt w base nb mb cb (W3 tb vb) (I3 pb cb tb vb) K ⟨b, false⟩ 0 0 w3) := Lib.hid ⟨⟨v, H.out.later HB3.out⟩, HCU.out, ⟨HPT.out, HTV.out⟩, NKW.below HB3.out, HB3.out.mono HBS.out, HCB.out, HBS.out⟩
    have HTB2 : Hid (base ≤ tb ∧ base ≤ vb) := Lib.hid (by have h1 := HTB.out; have h2 := HBS.out; omega)
    go_wp2_with fail
    refine (HSM.out w3 cb HR3.out.cur).mono ?_; rintro e w4 ⟨rfl, hc4, hg4⟩
    have HR4 := Lib.hid (HR3.out.cur_ (smp3' (pb := pb) HCB.out HTB2.out) (c2 := c0) hc4 hg4)
    have hx4 := grown_keep HX3.out hg4 (cells_ne HX3.out HCU.out (by decide))
    have HX4 := Lib.hid hx4
    have HT4 : Hid (Took3 w base nb mb cb pb tb vb K b.size (fun _ => ⟨⟨0, [], 0, 0, 0⟩, none, 0⟩) ⟨[], K, 0, 0, c0⟩ (.slice none 0 0) w4) := Lib.hid ⟨HR4.out, World.ownsRow_nil _ _ _ _, rfl, fun i hi => absurd hi (Nat.not_lt_zero i), by show (0 : Nat) < _; decide, Nat.zero_le _, fun _ => by show 0 + c0.s.size ≤ _; omega, zc, Nat.le_refl _, HKS.out⟩
    clear hc4 hg4 hx4 y1 HSM HR3 HR4 HX3 HTV HPT HCU zc
    go_wp2_with fail
    go_loopw [11] (fun lv wr => ∃ (q : Nat → RAt) (z : Wa.St3), Took3 w base nb mb cb pb tb vb K b.size q z lv wr ∧ Wa.run3 n (b.size + 1 - z.l.length) z = R ∧ wr.heap[w.heap.size]? = some (.cells #[.pointer (some ⟨nb, 0, none⟩)] 83 (0, 0))) (fun lv _ => b.size + 2 - lenOf lv)
    case atStart => exact ⟨_, _, HT4.out, HRUN.out.symm, HX4.out⟩
    case round =>
      obtain ⟨q, z, htk, hru, hxs⟩ := hrel
      have HTK := Lib.hid htk; have HRU := Lib.hid hru; have HXS := Lib.hid hxs
      obtain ⟨Al, cl, rfl, hcl, -, hAl, hrowl⟩ := own_row htk.row
      have HAL := Lib.hid hAl; have HROWL := Lib.hid hrowl
      clear htk hru hxs hAl hrowl hcl
      have y1 := cell_of_row _ _ 0 _ _ _ HTK.out.at_.st.1
      simp only [List.getElem?_toArray, List.getElem?_cons_zero] at y1
      obtain ⟨-, c1, -, -⟩ := HTK.out.at_.cur.cells
      have hlm := HTK.out.len
      have u1 : IntKind.u64.wrap (z.l.length : Int) = (z.l.length : Int) := by rw [IntKind.wrap_u64]; omega
      by_cases hlt : z.l.length < n
      · have d1 : decide ((z.l.length : Int) < (n : Int)) = true := decide_eq_true (by omega)
        have d2 : decide (z.l.length < n) = true := decide_eq_true hlt
        cases hbad : z.c.bad with
        | false =>
          rw [hbad] at c1
          have hkl := HTK.out.klen
          have HRD := Lib.hid (readChange_any (smp3' (pb := pb) HCB.out HTB2.out) HTK.out.at_.here (by omega) HTK.out.kall (by decide) (by have h1 := HTK.out.size; omega) HTK.out.vlt)
          have y3 := cell_of_row _ _ 0 _ _ _ HXS.out
          simp only [List.getElem?_toArray, List.getElem?_cons_zero] at y3
          have HBAD := Lib.hid hbad
          clear hkl
          go_wp2_with fail
          refine HRD.out.mono ?_; rintro e w6 ⟨A6, k6, rfl, ho6, hr6⟩
          have hb7 : Below w6.heap.size w6 (w6.alloc (.cells (recC (Wa.rd false z.K z.t z.v z.c).1 A6 k6) 52)) := (Below.refl _ _).alloc (Nat.le_refl _) _
          have hs7 := smp3' (pb := pb) HCB.out HTB2.out
          have hrow7 := row_far (RdAt.own_keeps hs7 HTK.out.at_.here hr6 HTK.out.row (by decide)) hb7
          have hx7 := heap_keep (RdAt.cell_keeps hs7 HTK.out.at_.here hr6 HXS.out (by decide)) hb7
          have hsr : Row 5 (fun _ j => rx (fun _ => ⟨(Wa.rd false z.K z.t z.v z.c).1, A6, k6⟩) 0 j) (w6.alloc (.cells (recC (Wa.rd false z.K z.t z.v z.c).1 A6 k6) 52)) (some ⟨w6.heap.size, 0, none⟩) 1 := row_built 5 _ w6 _ _ (fun j hj => by
            rcases (show j = 0 ∨ j = 1 ∨ j = 2 ∨ j = 3 ∨ j = 4 by omega) with rfl | rfl | rfl | rfl | rfl <;> rfl)
          have hwz : w.heap.size ≤ (w6.alloc (.cells (recC (Wa.rd false z.K z.t z.v z.c).1 A6 k6) 52)).heap.size := by
            have h1 := HTK.out.at_.bel.size; have h2 := hr6.bel.size; have h3 := hb7.size; omega
          have HFIN : Hid (∀ v5 w5, w5.ownsRow w.heap.size 52 5 v5 (z.l.length + 1) (rcells 5 (rx q) z.l.length ++ rcells 5 (fun _ j => rx (fun _ => ⟨(Wa.rd false z.K z.t z.v z.c).1, A6, k6⟩) 0 j) 1) → (w6.alloc (.cells (recC (Wa.rd false z.K z.t z.v z.c).1 A6 k6) 52)).grownBy w5 (Value.slice Al z.l.length cl).ownBlock →
              ∃ A5 c5, v5 = .slice A5 (z.l.length + 1) c5 ∧ Took3 w base nb mb cb pb tb vb K b.size (qMore q z.l.length ⟨(Wa.rd false z.K z.t z.v z.c).1, A6, k6⟩) (Wa.step3 z) v5 w5 ∧ w5.heap[w.heap.size]? = some (.cells #[.pointer (some ⟨nb, 0, none⟩)] 83 (0, 0))) := Lib.hid (fun v5 w5 h5 g5 => by
            have hm5 := HTK.out.more HCB.out HTB2.out (by omega) HBAD.out hr6 ho6 hb7 h5 g5
            have el : (Wa.step3 z).l.length = z.l.length + 1 := by rw [Wa.step3_tv]; simp
            obtain ⟨A5, c5, e5, -⟩ := own_row hm5.row
            rw [el] at e5
            exact ⟨A5, c5, e5, hm5, (g5.block _ (Array.getElem?_eq_some_iff.1 hx7).1 (fun e => block_other hrow7 hx7 (by decide) e.symm)).trans hx7⟩)
          have HROW7 := Lib.hid hrow7; have HSR := Lib.hid hsr; have HWZ := Lib.hid hwz
          clear ho6 hr6 hb7 hs7 hrow7 hx7 hsr hwz HRD y1 y3 c1 hbad
          have HRUN2 : Hid (Wa.run3 n (b.size + 1 - (Wa.step3 z).l.length) (Wa.step3 z) = R) := Lib.hid (by
            have el : (Wa.step3 z).l.length = z.l.length + 1 := by rw [Wa.step3_tv]; simp
            have hl := HTK.out.left HBAD.out
            rw [el, ← HRU.out, show b.size + 1 - z.l.length = (b.size + 1 - (z.l.length + 1)) + 1 from by omega, Wa.run3_go ⟨hlt, HBAD.out⟩])
          have HLL : Hid (z.l.length ≤ b.size ∧ (Wa.step3 z).l.length = z.l.length + 1) := Lib.hid ⟨by have hl := HTK.out.left HBAD.out; omega, by rw [Wa.step3_tv]; simp⟩
          obtain ⟨rr, hrr⟩ : ∃ rr, rr = (Wa.rd false z.K z.t z.v z.c).1 := ⟨_, rfl⟩
          rw [← hrr] at HFIN HSR HROW7 HWZ ⊢
          clear hrr
          unfold recC at HFIN HSR HROW7 HWZ ⊢
          go_wp2_with (at_builtin; go_must (refine wpList_append_row _ rfl _ _ 25 52 rfl 5 56 (.agg #[.int .i64 0, .slice none 0 0, .int .i64 0, .int .i64 0, .int .u64 0]) Try.underlying25 infoRec rfl (by decide) (by decide) w.heap.size _ z.l.length (rcells 5 (rx q) z.l.length) rfl HROW7.out (some ⟨w6.heap.size, 0, none⟩) 1 1 (fun _ j => rx (fun _ => ⟨rr, A6, k6⟩) 0 j) (by intro _ j; exact rx_one _ _ _) rfl HSR.out (fun e => by cases e) (by omega) HWZ.out ?_); intro v5 w5 hown5 hg5 _; obtain ⟨A5, c5, rfl, htk5, hx5⟩ := HFIN.out v5 w5 hown5 hg5; have HTK5 := Lib.hid htk5; have HX5 := Lib.hid hx5; clear hown5 hg5 htk5 hx5)
          go_roundw
          case rel => exact ⟨_, _, HTK5.out, HRUN2.out, HX5.out⟩
          case measure => simp [lenOf]; have := HLL.out; omega
        | true =>
          rw [hbad] at c1
          have HRZ : Hid (z = R) := Lib.hid (by rw [← HRU.out]; exact (Wa.run3_stop (by rintro ⟨-, h⟩; rw [hbad] at h; cases h)).symm)
          have HDN := Lib.hid (cuDone cb z.c wr HTK.out.at_.cur)
          rw [Wa.isEmpty_done] at HDN
          by_cases hn0 : n = 0
          · have d5 : decide ((n : Int) = 0) = true := decide_eq_true (by omega)
            have d6 : decide (n = 0) = true := decide_eq_true hn0
            have d7 : ((n : Int) == 0) = true := by rw [hn0]; rfl
            have HXN : Hid (X = ([], z.K, s, 2)) := Lib.hid (by rw [HX.out, if_neg (fun h => h.1 hn0), HRZ.out])
            clear hn0
            go_wp2_with fail
            go_ret3
            rw [HXN.out]
            obtain ⟨q1, q2, q3⟩ := TookEnd.of_rd HTK.out.at_ (fun g hg => by rcases hg with e | e <;> (have h1 := HTB.out; omega))
            obtain ⟨v6, hn6⟩ := q1
            exact TookEnd.none_ hn6 q2 q3
          · have d5 : decide ((n : Int) = 0) = false := decide_eq_false (by omega)
            have d6 : decide (n = 0) = false := decide_eq_false hn0
            have d7 : ((n : Int) == 0) = false := beq_eq_false_iff_ne.2 (by omega)
            go_wp2_with fail
            refine HDN.out.mono ?_; rintro e w8 ⟨rfl, hb8⟩
            have HAT8 := Lib.hid (HTK.out.at_.later (smp3' (pb := pb) HCB.out HTB2.out) hb8)
            have HB8 := Lib.hid hb8
            clear hb8
            obtain ⟨q1, q2, q3⟩ := TookEnd.of_rd HAT8.out (fun g hg => by rcases hg with e | e <;> (have h1 := HTB.out; omega))
            obtain ⟨v6, hn6⟩ := q1
            have HQ8 := Lib.hid (And.intro hn6 (And.intro q2 q3))
            clear hn6 q2 q3
            by_cases hd : z.c.s.size = 0 ∧ z.c.bad = false
            · have HXN : Hid (X = (z.l, z.K, rest, 0)) := Lib.hid (by rw [HX.out, if_pos ⟨hn0, by rw [← HRZ.out]; exact hd⟩, HRZ.out])
              rw [decide_eq_true hd]
              have HLQ := Lib.hid HTK.out.list
              clear hd hn0
              go_wp2_with fail
              go_ret3
              rw [HXN.out]
              exact ⟨Al, cl, q, v6, rfl, HLQ.out, HAL.out, HROWL.out.later HB8.out, fun i hi => (HTK.out.each i hi).later HB8.out, HQ8.out.1, HQ8.out.2.1, HQ8.out.2.2⟩
            · have HXN : Hid (X = ([], z.K, s, 2)) := Lib.hid (by rw [HX.out, if_neg (fun h => hd (by rw [HRZ.out]; exact h.2)), HRZ.out])
              rw [decide_eq_false hd]
              clear hd hn0
              go_wp2_with fail
              go_ret3
              rw [HXN.out]
              exact TookEnd.none_ HQ8.out.1 HQ8.out.2.1 HQ8.out.2.2
      · have d1 : decide ((z.l.length : Int) < (n : Int)) = false := decide_eq_false (by omega)
        have d2 : decide (z.l.length < n) = false := decide_eq_false hlt
        have HRZ : Hid (z = R) := Lib.hid (by rw [← HRU.out]; exact (Wa.run3_stop (by rintro ⟨h, -⟩; exact hlt h)).symm)
        have HDN := Lib.hid (cuDone cb z.c wr HTK.out.at_.cur)
        rw [Wa.isEmpty_done] at HDN
        by_cases hn0 : n = 0
        · have d5 : decide ((n : Int) = 0) = true := decide_eq_true (by omega)
          have d6 : decide (n = 0) = true := decide_eq_true hn0
          have d7 : ((n : Int) == 0) = true := by rw [hn0]; rfl
          have HXN : Hid (X = ([], z.K, s, 2)) := Lib.hid (by rw [HX.out, if_neg (fun h => h.1 hn0), HRZ.out])
          clear hn0
          go_wp2_with fail
          go_ret3
          rw [HXN.out]
          obtain ⟨q1, q2, q3⟩ := TookEnd.of_rd HTK.out.at_ (fun g hg => by rcases hg with e | e <;> (have h1 := HTB.out; omega))
          obtain ⟨v6, hn6⟩ := q1
          exact TookEnd.none_ hn6 q2 q3
        · have d5 : decide ((n : Int) = 0) = false := decide_eq_false (by omega)
          have d6 : decide (n = 0) = false := decide_eq_false hn0
          have d7 : ((n : Int) == 0) = false := beq_eq_false_iff_ne.2 (by omega)
          go_wp2_with fail
          refine HDN.out.mono ?_; rintro e w8 ⟨rfl, hb8⟩
          have HAT8 := Lib.hid (HTK.out.at_.later (smp3' (pb := pb) HCB.out HTB2.out) hb8)
          have HB8 := Lib.hid hb8
          clear hb8
          obtain ⟨q1, q2, q3⟩ := TookEnd.of_rd HAT8.out (fun g hg => by rcases hg with e | e <;> (have h1 := HTB.out; omega))
          obtain ⟨v6, hn6⟩ := q1
          have HQ8 := Lib.hid (And.intro hn6 (And.intro q2 q3))
          clear hn6 q2 q3
          by_cases hd : z.c.s.size = 0 ∧ z.c.bad = false
          · have HXN : Hid (X = (z.l, z.K, rest, 0)) := Lib.hid (by rw [HX.out, if_pos ⟨hn0, by rw [← HRZ.out]; exact hd⟩, HRZ.out])
            rw [decide_eq_true hd]
            have HLQ := Lib.hid HTK.out.list
            clear hd hn0
            go_wp2_with fail
            go_ret3
            rw [HXN.out]
            exact ⟨Al, cl, q, v6, rfl, HLQ.out, HAL.out, HROWL.out.later HB8.out, fun i hi => (HTK.out.each i hi).later HB8.out, HQ8.out.1, HQ8.out.2.1, HQ8.out.2.2⟩
          · have HXN : Hid (X = ([], z.K, s, 2)) := Lib.hid (by rw [HX.out, if_neg (fun h => hd (by rw [HRZ.out]; exact h.2)), HRZ.out])
            rw [decide_eq_false hd]
            clear hd hn0
            go_wp2_with fail
            go_ret3
            rw [HXN.out]
            exact TookEnd.none_ HQ8.out.1 HQ8.out.2.1 HQ8.out.2.2
  · have hX := hno hsh
    rw [hX]
    have d0 : decide ((shape : Int) = 0) = false := decide_eq_false (by omega)
    have d1 : ((shape : Int) != 0) = true := by simp; exact hsh
    have d2 : ((shape : Int) == 0) = false := beq_eq_false_iff_ne.2 (by omega)
    clear hno hin hgs hX
    go_enter Try.func101, Try.ntmps101
    go_wp2_with fail
    refine (HG.out _).mono ?_; rintro e w1 ⟨rfl, hb1⟩
    have HB1 := Lib.hid (((Below.refl w.heap.size w).alloc (Nat.le_refl _) (.cells #[.pointer (some ⟨nb, 0, none⟩)] 83)).trans (hb1.mono (by simp)))
    clear hb1
    go_wp2_with fail
    go_ret3
    exact TookEnd.none_ (H.out.later HB1.out) (RKeeps.below HB1.out) (HB1.out.mono HBS.out)
end Go.Proofs.Ytaillfnmaiiapaa
