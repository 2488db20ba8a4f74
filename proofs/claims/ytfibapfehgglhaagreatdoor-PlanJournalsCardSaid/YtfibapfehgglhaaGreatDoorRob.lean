import Derived.Test.YtfibapfehgglhaaGreatDoorSfR
/-
  A region that draws its order, each of whose operations comes to the same whatever was done ahead of it, as far as it looks: one walk for all orders. Over any program.
-/
namespace Go.Proofs.YtfibapfehgglhaaGreatDoor
open Go.RowKit
section Rob
variable {P : Program} {ops : Array Oper} {Q : Exit → Act → World → Prop} {md : Region.Mode}
def dstOf (ops : Array Oper) (j : Nat) : Option Tmp := (ops[j]?).bind (·.dst)
/-- the values of operations, laid -/
def lay (ops : Array Oper) (ν : Nat → Value) (D : List Nat) (a : Act) : Act := D.foldl (fun b j => b.put (dstOf ops j) (ν j)) a
def robB (md : Region.Mode) (ops : Array Oper) (L : Array Bool) (I : List Nat) : Bool :=
  (I.all fun i => L.getD i true == false && (match ops[i]? with
    | none => false
    | some o => I.all (fun j => match dstOf ops j with | none => true | some d => (j == i || o.dst != some d) && (!(o.looksAt ops).contains d || o.after.any (fun e => Region.binds md e && e.on == j))))) && Region.noSelect ops
/-- .. in the text's order each waits for those ahead of it alone -/
def topB (md : Region.Mode) (ops : Array Oper) (L : Array Bool) : List Nat → List Nat → Bool
  | _, [] => true
  | D, i :: r => (match ops[i]? with
    | none => false
    | some o => o.after.all (fun e => !Region.binds md e || L.getD e.on false || D.contains e.on)) && topB md ops L (i :: D) r
def waitsOn (md : Region.Mode) (ops : Array Oper) (k j : Nat) : Bool := match ops[k]? with | none => false | some o => o.after.any (fun e => Region.binds md e && e.on == j)
/-- whom u waits for, through others too -/
def reachI (md : Region.Mode) (ops : Array Oper) (u : Nat) (I : List Nat) : List Nat := I.reverse.foldl (fun K j => if (u :: K).any (fun k => waitsOn md ops k j) then j :: K else K) []
/-- .. and all others wait for all of them, or for each other -/
def outB (md : Region.Mode) (ops : Array Oper) (L : Array Bool) (I U : List Nat) : Bool :=
  ((List.range ops.size).all fun u => I.contains u || L.getD u true || U.contains u) &&
  U.all fun u => L.getD u true == false && !I.contains u && (match ops[u]? with
    | none => false
    | some o => I.all (reachI md ops u I).contains || o.after.any (fun e => Region.binds md e && U.contains e.on))
theorem waitsOn_spec {k j : Nat} (h : waitsOn md ops k j = true) : ∃ o, ops[k]? = some o ∧ ∃ e ∈ o.after, Region.binds md e = true ∧ e.on = j := by
  unfold waitsOn at h
  cases ho : ops[k]? with
  | none => rw [ho] at h; cases h
  | some o =>
    rw [ho] at h
    rw [Array.any_eq_true'] at h
    obtain ⟨e, he, hb⟩ := h
    rw [Bool.and_eq_true] at hb
    exact ⟨o, rfl, e, he, hb.1, by simpa using hb.2⟩
theorem reach_in {D : Nat → Prop} {u : Nat} {I : List Nat} (hu : ∀ j ∈ I, waitsOn md ops u j = true → D j) (hc : ∀ k, D k → ∀ j ∈ I, waitsOn md ops k j = true → D j) : ∀ j ∈ reachI md ops u I, D j := by
  unfold reachI
  have gen : ∀ (l K : List Nat), (∀ j ∈ l, j ∈ I) → (∀ j ∈ K, D j) → ∀ j ∈ l.foldl (fun K j => if (u :: K).any (fun k => waitsOn md ops k j) then j :: K else K) K, D j := by
    intro l
    induction l with
    | nil => intro K _ hK j hj; exact hK j hj
    | cons i l ih =>
      intro K hl hK
      refine ih _ (fun j hj => hl j (List.mem_cons_of_mem _ hj)) (fun j hj => ?_)
      dsimp only at hj
      split at hj
      · rename_i hw
        rcases List.mem_cons.1 hj with e | e
        · subst e
          obtain ⟨k, hk, hkw⟩ := List.any_eq_true.1 hw
          rcases List.mem_cons.1 hk with e2 | e2
          · exact hu j (hl j (List.mem_cons_self ..)) (e2 ▸ hkw)
          · exact hc k (hK k e2) j (hl j (List.mem_cons_self ..)) hkw
        · exact hK j e
      · exact hK j hj
  exact gen I.reverse [] (fun j hj => List.mem_reverse.1 hj) (fun j hj => by cases hj)
theorem exec_lay {ν : Nat → Value} {o : Oper} (hs : ∀ cs b, o.op ≠ .select cs b) : ∀ (R : List Nat) (b : Act), (∀ j ∈ R, ∀ d, dstOf ops j = some d → d ∉ o.looksAt ops) →
    execOp (lay ops ν R b).eval o = execOp b.eval o ∧ Region.wanted o (yielded ops (lay ops ν R b).tmps) = Region.wanted o (yielded ops b.tmps)
  | [], _, _ => ⟨rfl, rfl⟩
  | j :: R, b, h => by
    have h1 := exec_lay (ν := ν) hs R (b.put (dstOf ops j) (ν j)) (fun k hk => h k (List.mem_cons_of_mem _ hk))
    exact ⟨h1.1.trans (execOp_put o hs b _ _ (h j (List.mem_cons_self ..))), h1.2.trans (wanted_put o b _ _ (h j (List.mem_cons_self ..)))⟩
theorem lay_append (ν : Nat → Value) (D R : List Nat) (a : Act) : lay ops ν (D ++ R) a = lay ops ν R (lay ops ν D a) := by unfold lay; rw [List.foldl_append]
theorem lay_congr {ν μ : Nat → Value} : ∀ (D : List Nat) (a : Act), (∀ j ∈ D, ν j = μ j) → lay ops ν D a = lay ops μ D a
  | [], _, _ => rfl
  | j :: D, a, h => by
    show lay ops ν D (a.put (dstOf ops j) (ν j)) = lay ops μ D (a.put (dstOf ops j) (μ j))
    rw [h j (List.mem_cons_self ..)]
    exact lay_congr D _ (fun k hk => h k (List.mem_cons_of_mem _ hk))
/-- no two of them yield into one slot -/
def Sole (ops : Array Oper) (I : List Nat) : Prop := ∀ i ∈ I, ∀ j ∈ I, i ≠ j → ∀ d, dstOf ops j = some d → dstOf ops i ≠ some d
theorem lay_perm {ν : Nat → Value} {D E : List Nat} (h : D.Perm E) (hd : Sole ops D) (a : Act) : lay ops ν D a = lay ops ν E a := by
  unfold lay
  refine h.foldl_eq' (fun x hx y hy z => ?_) a
  by_cases e : x = y
  · subst e; rfl
  · exact Act.put_comm z _ _ (fun d h1 h2 => hd x hx y hy e d h2 h1)
theorem listed_at (L : Array Bool) : ∀ (D : List Nat) (k : Nat) (b : Bool), (pickSet D L).getD k b = if k ∈ D ∧ k < L.size then true else L.getD k b
  | [], k, b => by simp [pickSet]
  | i :: D, k, b => by
    show (pickSet D (L.setIfInBounds i true)).getD k b = _
    rw [listed_at (L.setIfInBounds i true) D k b]
    simp only [Array.size_setIfInBounds, List.mem_cons]
    by_cases h1 : k ∈ D ∧ k < L.size
    · rw [if_pos h1, if_pos ⟨.inr h1.1, h1.2⟩]
    · rw [if_neg h1]
      by_cases h2 : k = i
      · subst h2
        by_cases h3 : k < L.size
        · rw [if_pos ⟨.inl rfl, h3⟩]; simp [h3]
        · rw [if_neg (fun h => h3 h.2)]; simp [h3]
      · rw [if_neg (fun h => h1 ⟨h.1.resolve_left h2, h.2⟩)]
        simp only [Array.getD_eq_getD_getElem?]
        rw [Array.getElem?_setIfInBounds_ne (Ne.symm h2)]
theorem pickSet_size : ∀ (D : List Nat) (L : Array Bool), (pickSet D L).size = L.size
  | [], _ => rfl
  | i :: D, L => by show (pickSet D (L.setIfInBounds i true)).size = _; rw [pickSet_size D, Array.size_setIfInBounds]
theorem pickSet_perm {D E : List Nat} (h : D.Perm E) (L : Array Bool) : pickSet D L = pickSet E L := by
  apply Array.ext_getElem?
  intro k
  have a1 := pickSet_size D L
  have a2 := pickSet_size E L
  by_cases hk : k < L.size
  · have h1 := listed_at L D k true
    have h2 := listed_at L E k true
    simp only [h.mem_iff] at h1
    rw [← h2] at h1
    rw [Array.getD_eq_getD_getElem?, Array.getD_eq_getD_getElem?, Array.getElem?_eq_getElem (by omega), Array.getElem?_eq_getElem (by omega)] at h1
    rw [Array.getElem?_eq_getElem (by omega), Array.getElem?_eq_getElem (by omega)]
    simpa using h1
  · rw [Array.getElem?_eq_none (by omega), Array.getElem?_eq_none (by omega)]
theorem pickSet_append (D E : List Nat) (L : Array Bool) : pickSet (D ++ E) L = pickSet E (pickSet D L) := by
  induction D generalizing L with
  | nil => rfl
  | cons i D ih => exact ih _
/-- what an operation comes to -/
def Yld (P : Program) (ops : Array Oper) (o : Oper) (a : Act) (w : World) (R : Value → World → Prop) : Prop :=
  (Region.wanted o (yielded ops a.tmps) = true ∧ ((∃ v w', ((execOp a.eval o).run P w = .ok (.value v) w' ∨ ((execOp a.eval o).run P w = .ok .skip w' ∧ v = undef)) ∧ R v w') ∨
    (∃ f args w1, (execOp a.eval o).run P w = .ok (.enter f args) w1 ∧ Calls P f args w1 (fun e w' => ∃ v, e = .returned v ∧ R v w')))) ∨
  (Region.wanted o (yielded ops a.tmps) = false ∧ R undef w)
theorem Yld.value {o : Oper} {a : Act} {w : World} {R : Value → World → Prop} (v : Value) (w' : World) (hw : Region.wanted o (yielded ops a.tmps) = true) (h : (execOp a.eval o).run P w = .ok (.value v) w') (hR : R v w') : Yld P ops o a w R := .inl ⟨hw, .inl ⟨v, w', .inl h, hR⟩⟩
theorem Yld.store {o : Oper} {a : Act} {w : World} {R : Value → World → Prop} (w' : World) (hw : Region.wanted o (yielded ops a.tmps) = true) (h : (execOp a.eval o).run P w = .ok .skip w') (hR : R undef w') : Yld P ops o a w R := .inl ⟨hw, .inl ⟨undef, w', .inr ⟨h, rfl⟩, hR⟩⟩
theorem Yld.call {o : Oper} {a : Act} {w : World} {R : Value → World → Prop} (f : FuncId) (args : Array Value) (hw : Region.wanted o (yielded ops a.tmps) = true) (h : (execOp a.eval o).run P w = .ok (.enter f args) w) (hc : Calls P f args w (fun e w' => ∃ v, e = .returned v ∧ R v w')) : Yld P ops o a w R := .inl ⟨hw, .inr ⟨f, args, w, h, hc⟩⟩
theorem Yld.skip {o : Oper} {a : Act} {w : World} {R : Value → World → Prop} (hw : Region.wanted o (yielded ops a.tmps) = false) (hR : R undef w) : Yld P ops o a w R := .inr ⟨hw, hR⟩
theorem top_first {L : Array Bool} : ∀ (E I D : List Nat), topB md ops L E I = true → (∀ k ∈ E, k ∈ D) → (∃ i ∈ I, i ∉ D) → ∃ i ∈ I, i ∉ D ∧ ∃ o, ops[i]? = some o ∧ ∀ e ∈ o.after, Region.binds md e = true → L.getD e.on false = true ∨ e.on ∈ D
  | _, [], _, _, _, h => by obtain ⟨i, hi, -⟩ := h; cases hi
  | E, i :: I, D, hT, hE, h => by
    unfold topB at hT
    rw [Bool.and_eq_true] at hT
    by_cases hi : i ∈ D
    · obtain ⟨k, hk, hkD⟩ := h
      have hk2 : k ∈ I := by
        rcases List.mem_cons.1 hk with e | e
        · exact absurd (e ▸ hi) hkD
        · exact e
      obtain ⟨m, hm, h1, h2⟩ := top_first (i :: E) I D hT.2 (fun x hx => by
        rcases List.mem_cons.1 hx with e | e
        · exact e ▸ hi
        · exact hE x e) ⟨k, hk2, hkD⟩
      exact ⟨m, List.mem_cons_of_mem _ hm, h1, h2⟩
    · cases ho : ops[i]? with
      | none => rw [ho] at hT; exact absurd hT.1 (by simp)
      | some o =>
        rw [ho] at hT
        have := Array.all_eq_true_iff_forall_mem.1 hT.1
        refine ⟨i, List.mem_cons_self .., hi, o, ho, fun e he hb => ?_⟩
        have h1 := this e he
        rw [hb] at h1
        simp only [Bool.not_true, Bool.false_or, Bool.or_eq_true, List.contains_iff_mem] at h1
        exact h1.imp id (fun x => hE _ x)
theorem any_spec {o : Oper} {p : Nat → Bool} (h : o.after.any (fun e => Region.binds md e && p e.on) = true) : ∃ e ∈ o.after, Region.binds md e = true ∧ p e.on = true := by
  rw [Array.any_eq_true'] at h
  obtain ⟨e, he, hb⟩ := h
  rw [Bool.and_eq_true] at hb
  exact ⟨e, he, hb.1, hb.2⟩
/-- the operations I, each of which comes to what Φ says, whatever was done of the others -/
theorem wpAnyT_rob {L : Array Bool} {a0 : Act} {G : World → World → Prop} {S : (Nat → Bool) → World → Prop} {Φ : Nat → Value → World → Prop} {fuel : Nat} (I U : List Nat) (hB : robB md ops L I = true) (hT : topB md ops L [] I = true) (hU : outB md ops L I U = true) (hN : I.Nodup) (hz : ops.size ≤ L.size)
    (hG : ∀ i v w w', Φ i v w → G w w' → Φ i v w')
    (hop : ∀ i ∈ I, ∀ (ν : Nat → Value) (δ : Nat → Bool) w o, ops[i]? = some o → S δ w → δ i = false → (∀ j ∈ I, (reachI md ops i I).contains j = true → δ j = true) → (∀ k ∈ I, (reachI md ops k I).contains i = true → δ k = false) →
      (∀ j, o.after.any (fun e => Region.binds md e && e.on == j) = true → j ∈ I → Φ j (ν j) w) → Yld P ops o (lay ops ν I a0) w (fun v w' => G w w' ∧ S (fun k => if k = i then true else δ k) w' ∧ Φ i v w'))
    (hend : ∀ (ν : Nat → Value) (δ : Nat → Bool) w, S δ w → (∀ i ∈ I, δ i = true) → (∀ i ∈ I, Φ i (ν i) w) → wpAnyT P md ops Q (fun _ => True) [] fuel (pickSet I L) (lay ops ν I a0) w) :
    ∀ (R D : List Nat) (ν : Nat → Value) (w : World), (D ++ R).Perm I → (∀ k ∈ D, ∀ j ∈ I, waitsOn md ops k j = true → j ∈ D) → S (fun k => D.contains k) w → (∀ j ∈ D, Φ j (ν j) w) → wpAnyT P md ops Q (fun _ => True) [] (fuel + R.length) (pickSet D L) (lay ops ν D a0) w := by
  unfold robB at hB
  rw [Bool.and_eq_true] at hB
  have hI := List.all_eq_true.1 hB.1
  have hsel := Region.noSelect_spec hB.2
  unfold outB at hU
  rw [Bool.and_eq_true] at hU
  have hU1 := List.all_eq_true.1 hU.1
  have hU2 := List.all_eq_true.1 hU.2
  have hsole : Sole ops I := by
    intro i hi j hj hne d hd hd2
    have h1 := hI i hi
    rw [Bool.and_eq_true] at h1
    unfold dstOf at hd2
    cases ho : ops[i]? with
    | none => rw [ho] at hd2; cases hd2
    | some o =>
      rw [ho] at h1 hd2
      have h2 := List.all_eq_true.1 h1.2 j hj
      rw [hd] at h2
      simp only [Bool.and_eq_true, Bool.or_eq_true, beq_iff_eq, bne_iff_ne] at h2
      rcases h2.1 with e | e
      · exact hne e.symm
      · exact e hd2
  intro R
  generalize hm : R.length = m
  induction m generalizing R with
  | zero =>
    intro D ν w hp hcl hs hφ
    have e : R = [] := List.length_eq_zero_iff.1 hm
    subst e
    rw [List.append_nil] at hp
    rw [pickSet_perm hp, lay_perm hp (fun i hi j hj => hsole i (hp.mem_iff.1 hi) j (hp.mem_iff.1 hj))]
    exact hend ν _ w hs (fun i hi => List.contains_iff_mem.2 (hp.mem_iff.2 hi)) (fun i hi => hφ i (hp.mem_iff.2 hi))
  | succ m ih =>
    intro D ν w hp hcl hs hφ
    have hnd : (D ++ R).Nodup := hp.nodup_iff.2 hN
    have hDI : ∀ k ∈ D, k ∈ I := fun k hk => hp.mem_iff.1 (List.mem_append_left _ hk)
    have hRI : ∀ k ∈ R, k ∈ I := fun k hk => hp.mem_iff.1 (List.mem_append_right _ hk)
    have hRD : ∀ k ∈ R, k ∉ D := fun k hk hk2 => (List.nodup_append.1 hnd).2.2 k hk2 k hk rfl
    have hLI : ∀ k ∈ I, L.getD k true = false ∧ ∃ o, ops[k]? = some o := fun k hk => by
      have h1 := hI k hk
      rw [Bool.and_eq_true] at h1
      refine ⟨by simpa using h1.1, ?_⟩
      cases ho : ops[k]? with
      | none => rw [ho] at h1; exact absurd h1.2 (by simp)
      | some o => exact ⟨o, rfl⟩
    have hlt : ∀ k ∈ I, k < L.size := fun k hk => by
      obtain ⟨o, ho⟩ := (hLI k hk).2
      exact Nat.lt_of_lt_of_le (Array.getElem?_eq_some_iff.1 ho).1 hz
    refine ⟨fun h0 => ?_, fun i hi => ?_⟩
    · exfalso
      obtain ⟨r, R', rfl⟩ : ∃ r R', R = r :: R' := by
        cases R with
        | nil => cases hm
        | cons r R' => exact ⟨r, R', rfl⟩
      have hrI := hRI r (List.mem_cons_self ..)
      obtain ⟨i, hi, hiD, o, ho, hall⟩ := top_first [] I D hT (fun k hk => by cases hk) ⟨r, hrI, hRD r (List.mem_cons_self ..)⟩
      have : i ∈ Region.ready md ops (pickSet D L) := by
        rw [mem_ready]
        refine ⟨by rw [listed_at, if_neg (fun h => hiD h.1)]; exact (hLI i hi).1, o, ho, fun e he hb => ?_⟩
        rw [listed_at]
        split
        · rfl
        · rename_i hn
          rcases hall e he hb with h | h
          · exact h
          · exact absurd ⟨h, hlt _ (hDI _ h)⟩ hn
      rw [h0] at this
      cases this
    · obtain ⟨hun, o, ho, hall⟩ := mem_ready.1 hi
      have hio : i < ops.size := (Array.getElem?_eq_some_iff.1 ho).1
      have hiD : i ∉ D := fun h => by
        rw [listed_at, if_pos ⟨h, hlt _ (hDI _ h)⟩] at hun
        cases hun
      have hiI : i ∈ I := by
        by_cases hii : i ∈ I
        · exact hii
        · exfalso
          have h1 := hU1 i (List.mem_range.2 hio)
          rw [listed_at, if_neg (fun h => hiD h.1)] at hun
          rw [hun] at h1
          have hc : I.contains i = false := by rw [List.contains_eq_mem]; exact decide_eq_false hii
          rw [hc] at h1
          simp only [Bool.false_or, List.contains_iff_mem] at h1
          have h2 := hU2 i h1
          rw [ho] at h2
          simp only [Bool.and_eq_true, Bool.or_eq_true] at h2
          rcases h2.2 with h3 | h3
          · obtain ⟨r, hr⟩ : ∃ r, r ∈ R := by
              cases R with
              | nil => cases hm
              | cons r R' => exact ⟨r, List.mem_cons_self ..⟩
            have hin := List.all_eq_true.1 h3 r (hRI r hr)
            refine hRD r hr (reach_in (D := fun j => j ∈ D) (fun j hjI hw => ?_) hcl r (List.contains_iff_mem.1 hin))
            obtain ⟨o2, ho2, e, he, hb, hon⟩ := waitsOn_spec hw
            rw [ho] at ho2
            cases ho2
            have k1 := hall e he hb
            rw [hon, listed_at] at k1
            by_cases hjD : j ∈ D
            · exact hjD
            · rw [if_neg (fun h => hjD h.1), getD_both (hLI j hjI).1] at k1
              cases k1
          · obtain ⟨e, he, hb, hon⟩ := any_spec (p := fun x => U.contains x) h3
            have k1 := hall e he hb
            have hu := hU2 e.on (by simpa using hon)
            simp only [Bool.and_eq_true] at hu
            have hnI : e.on ∉ I := by
              have := hu.1.2
              rw [Bool.not_eq_true'] at this
              rw [List.contains_eq_mem] at this
              simpa using this
            rw [listed_at, if_neg (fun h => hnI (hDI _ h.1)), getD_both (by simpa using hu.1.1)] at k1
            cases k1
      have hiR : i ∈ R := by
        rcases List.mem_append.1 (hp.mem_iff.2 hiI) with h | h
        · exact absurd h hiD
        · exact h
      have hpre : ∀ j, o.after.any (fun e => Region.binds md e && e.on == j) = true → j ∈ I → j ∈ D := fun j hj hjI => by
        obtain ⟨e, he, hb, hon⟩ := any_spec (p := fun x => x == j) hj
        have k1 := hall e he hb
        rw [show e.on = j from by simpa using hon, listed_at] at k1
        by_cases hjD : j ∈ D
        · exact hjD
        · rw [if_neg (fun h => hjD h.1), getD_both (hLI j hjI).1] at k1
          cases k1
      have hlook : ∀ j ∈ R, ∀ d, dstOf ops j = some d → d ∉ o.looksAt ops := fun j hj d hd hmem => by
        have h1 := hI i hiI
        rw [Bool.and_eq_true, ho] at h1
        have h2 := List.all_eq_true.1 h1.2 j (hRI j hj)
        rw [hd] at h2
        simp only [Bool.and_eq_true, Bool.or_eq_true, Bool.not_eq_true', List.contains_eq_mem] at h2
        rcases h2.2 with h3 | h3
        · simp [hmem] at h3
        · exact hRD j hj (hpre j (by simpa using h3) (hRI j hj))
      have hsi := fun cs b => hsel i o cs b ho
      have hex := exec_lay (ν := ν) hsi R (lay ops ν D a0) hlook
      have hla : lay ops ν R (lay ops ν D a0) = lay ops ν I a0 := by
        rw [← lay_append]
        exact lay_perm hp (fun x hx y hy => hsole x (hp.mem_iff.1 hx) y (hp.mem_iff.1 hy)) a0
      rw [hla] at hex
      have hreach : ∀ j ∈ reachI md ops i I, j ∈ D := reach_in (D := fun j => j ∈ D) (fun j hjI hw => by
        obtain ⟨o2, ho2, e, he, hb, hon⟩ := waitsOn_spec hw
        rw [ho] at ho2
        cases ho2
        exact hpre j (Array.any_eq_true'.2 ⟨e, he, by rw [hb, hon]; simp⟩) hjI) hcl
      have hy := hop i hiI ν (fun k => D.contains k) w o ho hs (by rw [List.contains_eq_mem]; exact decide_eq_false hiD) (fun j _ hj => List.contains_iff_mem.2 (hreach j (List.contains_iff_mem.1 hj))) (fun k hk hki => by
        rw [List.contains_eq_mem]
        refine decide_eq_false (fun hkD => hiD ?_)
        exact reach_in (D := fun j => j ∈ D) (fun j hjI hw => hcl k hkD j hjI hw) hcl i (List.contains_iff_mem.1 hki)) (fun j hj hjI => hφ j (hpre j hj hjI))
      have hnext : ∀ v w', G w w' → S (fun k => if k = i then true else D.contains k) w' → Φ i v w' → wpAnyT P md ops Q (fun _ => True) [] (fuel + m) ((pickSet D L).setIfInBounds i true) ((lay ops ν D a0).put o.dst v) w' := by
        intro v w' hg hsn hv
        have hδ : (fun k => if k = i then true else D.contains k) = (fun k => (D ++ [i]).contains k) := by
          funext k
          rw [List.contains_eq_mem, List.contains_eq_mem]
          by_cases e : k = i
          · rw [if_pos e]; simp [e]
          · rw [if_neg e]; simp [e]
        rw [hδ] at hsn
        have hp2 : ((D ++ [i]) ++ R.erase i).Perm I := by
          rw [List.append_assoc]
          exact (List.Perm.append_left D (List.perm_cons_erase hiR).symm).trans hp
        have := ih (R.erase i) (by rw [List.length_erase_of_mem hiR]; omega) (D ++ [i]) (fun k => if k = i then v else ν k) w' hp2 (fun k hk j hjI hw => by
          rcases List.mem_append.1 hk with h | h
          · exact List.mem_append_left _ (hcl k h j hjI hw)
          · obtain rfl : k = i := by simpa using h
            obtain ⟨o2, ho2, e, he, hb, hon⟩ := waitsOn_spec hw
            rw [ho] at ho2
            cases ho2
            refine List.mem_append_left _ (hpre j (Array.any_eq_true'.2 ⟨e, he, ?_⟩) hjI)
            rw [hb, hon]; simp) hsn (fun j hj => by
          rcases List.mem_append.1 hj with h | h
          · have hne : j ≠ i := fun e => hiD (e ▸ h)
            rw [if_neg hne]
            exact hG j _ w w' (hφ j h) hg
          · have e : j = i := by simpa using h
            subst e
            rw [if_pos rfl]
            exact hv)
        rw [pickSet_append, lay_append] at this
        have e1 : lay ops (fun k => if k = i then v else ν k) D a0 = lay ops ν D a0 := lay_congr D a0 (fun j hj => if_neg (fun (e : j = i) => hiD (e ▸ hj)))
        rw [e1] at this
        have e2 : lay ops (fun k => if k = i then v else ν k) [i] (lay ops ν D a0) = (lay ops ν D a0).put o.dst v := by
          show (lay ops ν D a0).put (dstOf ops i) (if i = i then v else ν i) = _
          rw [if_pos rfl]
          unfold dstOf
          rw [ho]
          rfl
        rw [e2] at this
        exact this
      unfold wpOp
      simp only [ho]
      unfold Yld at hy
      rw [hex.1, hex.2] at hy
      rcases hy with ⟨hw, h⟩ | ⟨hw, hg, hsn, hv⟩
      · simp only [hw, if_true]
        refine .inl ?_
        unfold Oper.wp
        rcases h with ⟨v, w', hr | ⟨hr, rfl⟩, hg, hsn, hv⟩ | ⟨f, args, w1, hr, hc⟩
        · rw [hr]
          exact ⟨fun _ => trivial, hnext v w' hg hsn hv⟩
        · rw [hr]
          exact ⟨fun _ => trivial, hnext undef w' hg hsn hv⟩
        · rw [hr]
          refine hc.mono ?_
          rintro e w2 ⟨v, rfl, hg, hsn, hv⟩
          exact ⟨fun _ => trivial, hnext v w2 hg hsn hv⟩
      · simp only [hw, Bool.false_eq_true, if_false]
        exact ⟨fun _ => trivial, hnext undef w hg hsn hv⟩
theorem Yld.mono {o : Oper} {a : Act} {w : World} {R R2 : Value → World → Prop} (h : Yld P ops o a w R) (hR : ∀ v w', R v w' → R2 v w') : Yld P ops o a w R2 := by
  rcases h with ⟨hw, ⟨v, w', h, hr⟩ | ⟨f, args, w1, h, hc⟩⟩ | ⟨hw, hr⟩
  · exact .inl ⟨hw, .inl ⟨v, w', h, hR _ _ hr⟩⟩
  · exact .inl ⟨hw, .inr ⟨f, args, w1, h, hc.mono fun e w' ⟨v, e1, hr⟩ => ⟨v, e1, hR _ _ hr⟩⟩⟩
  · exact .inr ⟨hw, hR _ _ hr⟩
/-- a region that draws, whose first operations are such -/
theorem plain_rob {id : Nat} {ops : Array Oper} {a : Act} {w : World} {Q : Exit → Act → World → Prop} (I U : List Nat) (G : World → World → Prop) (S : (Nat → Bool) → World → Prop) (Φ : Nat → Value → World → Prop) (fuel : Nat) (hm : P.follows .mixedOrders = true)
    (hB : (robB .any ops (Array.replicate ops.size false) I && topB .any ops (Array.replicate ops.size false) [] I && outB .any ops (Array.replicate ops.size false) I U && decide I.Nodup && (fuel + I.length == ops.size)) = true)
    (h0 : S (fun _ => false) w.drew) (hG : ∀ i v w w', Φ i v w → G w w' → Φ i v w')
    (hop : ∀ i ∈ I, ∀ (ν : Nat → Value) (δ : Nat → Bool) w o, ops[i]? = some o → S δ w → δ i = false → (∀ j ∈ I, (reachI .any ops i I).contains j = true → δ j = true) → (∀ k ∈ I, (reachI .any ops k I).contains i = true → δ k = false) →
      (∀ j, o.after.any (fun e => Region.binds .any e && e.on == j) = true → j ∈ I → Φ j (ν j) w) → Yld P ops o (lay ops ν I a) w (fun v w' => G w w' ∧ S (fun k => if k = i then true else δ k) w' ∧ Φ i v w'))
    (hend : ∀ (ν : Nat → Value) (δ : Nat → Bool) w, S δ w → (∀ i ∈ I, δ i = true) → (∀ i ∈ I, Φ i (ν i) w) → wpAnyT P .any ops (Only (Q .normal)) (fun _ => True) [] fuel (pickSet I (Array.replicate ops.size false)) (lay ops ν I a) w) : (Code.region id ops true).wp P Q a w := by
  simp only [Bool.and_eq_true, beq_iff_eq, decide_eq_true_eq] at hB
  obtain ⟨⟨⟨⟨h1, h2⟩, h3⟩, h4⟩, h5⟩ := hB
  refine plain_T (Q := Q) (fun _ => True) [] hm ?_
  have := wpAnyT_rob (P := P) (Q := Only (Q .normal)) (L := Array.replicate ops.size false) (a0 := a) (G := G) (S := S) (Φ := Φ) (fuel := fuel) I U h1 h2 h3 h4 (by simp) hG hop hend I [] (fun _ => undef) w.drew (List.Perm.refl _) (fun k hk => by cases hk) h0 (fun j hj => by cases hj)
  rw [h5] at this
  exact this
/-- the letters' values, laid slot by slot -/
def putsν (ν : Nat → Value) : List (Nat × Option Tmp) → Act → Act
  | [], a => a
  | (j, d) :: r, a => putsν ν r (a.put d (ν j))
theorem lay_puts {ops : Array Oper} (ν : Nat → Value) : ∀ (J : List (Nat × Option Tmp)) (a : Act), (J.all fun p => dstOf ops p.1 == p.2) = true → lay ops ν (J.map (·.1)) a = putsν ν J a
  | [], _, _ => rfl
  | (j, d) :: r, a, h => by
    rw [List.all_cons, Bool.and_eq_true] at h
    have e : dstOf ops j = d := by simpa using h.1
    show lay ops ν (r.map (·.1)) (a.put (dstOf ops j) (ν j)) = _
    rw [e]
    exact lay_puts ν r _ h.2
/-- what is known of a value -/
structure Fx (F : List (Nat × Value)) (C : List (Nat × (Value → World → Prop))) (i : Nat) (v : Value) (w : World) : Prop where
  val : ∀ u, F.lookup i = some u → v = u
  is : ∀ φ, C.lookup i = some φ → φ v w
theorem Fx.fixed {F : List (Nat × Value)} {C : List (Nat × (Value → World → Prop))} {i : Nat} {v : Value} {w : World} (h1 : F.lookup i = some v) (h2 : C.lookup i = none) : Fx F C i v w := ⟨fun u h => Option.some.inj (h1.symm.trans h), fun φ h => by rw [h2] at h; cases h⟩
theorem Fx.some_ {F : List (Nat × Value)} {C : List (Nat × (Value → World → Prop))} {i : Nat} {v : Value} {w : World} {φ : Value → World → Prop} (h1 : F.lookup i = none) (h2 : C.lookup i = some φ) (h : φ v w) : Fx F C i v w := ⟨fun u h0 => (by rw [h1] at h0; cases h0), fun ψ h0 => by obtain rfl : φ = ψ := Option.some.inj (h2.symm.trans h0); exact h⟩
theorem lookup_mem {β : Type} : ∀ {C : List (Nat × β)} {i : Nat} {φ : β}, C.lookup i = some φ → (i, φ) ∈ C
  | (j, ψ) :: C, i, φ, h => by
    rw [List.lookup_cons] at h
    split at h
    · rename_i he
      have e : i = j := by simpa using he
      cases h
      rw [e]; exact List.mem_cons_self ..
    · exact List.mem_cons_of_mem _ (lookup_mem h)
/-- each operation comes to what is said -/
def HopsD (P : Program) (ops : Array Oper) (G : World → World → Prop) (S : (Nat → Bool) → World → Prop) (F : List (Nat × Value)) (C : List (Nat × (Value → World → Prop))) (J : List (Nat × Option Tmp)) (a : Act) : List (Nat × Option Tmp) → Prop
  | [] => True
  | (i, _) :: r => (∃ o, ops[i]? = some o ∧ ∀ (ν : Nat → Value) (δ : Nat → Bool) (U : World), S δ U → δ i = false → (∀ j, (reachI .any ops i (J.map (·.1))).contains j = true → (J.map (·.1)).contains j = true → δ j = true) → (∀ k, (reachI .any ops k (J.map (·.1))).contains i = true → (J.map (·.1)).contains k = true → δ k = false) →
      (∀ j, o.after.any (fun e => Region.binds .any e && e.on == j) = true → (J.map (·.1)).contains j = true → Fx F C j (ν j) U) → Yld P ops o (putsν ν J a) U (fun v V => G U V ∧ S (fun k => if k = i then true else δ k) V ∧ Fx F C i v V)) ∧ HopsD P ops G S F C J a r
theorem HopsD.all {ops : Array Oper} {G : World → World → Prop} {S : (Nat → Bool) → World → Prop} {F : List (Nat × Value)} {C : List (Nat × (Value → World → Prop))} {J : List (Nat × Option Tmp)} {a : Act} (hJ : (J.all fun p => dstOf ops p.1 == p.2) = true) : ∀ (r : List (Nat × Option Tmp)), HopsD P ops G S F C J a r →
    ∀ i ∈ r.map (·.1), ∀ (ν : Nat → Value) (δ : Nat → Bool) w o, ops[i]? = some o → S δ w → δ i = false → (∀ j ∈ J.map (·.1), (reachI .any ops i (J.map (·.1))).contains j = true → δ j = true) → (∀ k ∈ J.map (·.1), (reachI .any ops k (J.map (·.1))).contains i = true → δ k = false) →
      (∀ j, o.after.any (fun e => Region.binds .any e && e.on == j) = true → j ∈ J.map (·.1) → Fx F C j (ν j) w) → Yld P ops o (lay ops ν (J.map (·.1)) a) w (fun v w' => G w w' ∧ S (fun k => if k = i then true else δ k) w' ∧ Fx F C i v w')
  | [], _, i, hi, _, _, _, _, _, _, _, _, _, _ => by cases hi
  | (k, d) :: r, h, i, hi, ν, δ, w, o, ho, hS, h0, h1, h2, hp => by
    rw [lay_puts ν J a hJ]
    rcases List.mem_cons.1 hi with e | e
    · obtain rfl : i = k := e
      obtain ⟨o2, ho2, hh⟩ := h.1
      obtain rfl : o2 = o := Option.some.inj (ho2.symm.trans ho)
      exact hh ν δ w hS h0 (fun j hj hjJ => h1 j (List.contains_iff_mem.1 hjJ) hj) (fun j hj hjJ => h2 j (List.contains_iff_mem.1 hjJ) hj) (fun j hj hjJ => hp j hj (List.contains_iff_mem.1 hjJ))
    · have := HopsD.all hJ r h.2 i e ν δ w o ho hS h0 h1 h2 hp
      rwa [lay_puts ν J a hJ] at this
/-- a region that draws, whose first operations are such: the walk; what is known of the world hangs on what was done -/
theorem plain_robD {id : Nat} {ops : Array Oper} {a : Act} {w : World} {Q : Exit → Act → World → Prop} (J : List (Nat × Option Tmp)) (U : List Nat) (G : World → World → Prop) (S : (Nat → Bool) → World → Prop) (F : List (Nat × Value)) (C : List (Nat × (Value → World → Prop))) (fuel : Nat) (hm : P.follows .mixedOrders = true)
    (hB : (robB .any ops (Array.replicate ops.size false) (J.map (·.1)) && topB .any ops (Array.replicate ops.size false) [] (J.map (·.1)) && outB .any ops (Array.replicate ops.size false) (J.map (·.1)) U && decide (J.map (·.1)).Nodup && (fuel + (J.map (·.1)).length == ops.size)) = true)
    (hJ : (J.all fun p => dstOf ops p.1 == p.2) = true)
    (h0 : S (fun _ => false) w.drew) (hC : ∀ p ∈ C, ∀ v U V, p.2 v U → G U V → p.2 v V)
    (hop : HopsD P ops G S F C J a J)
    (hend : ∀ (ν : Nat → Value) (δ : Nat → Bool) w, S δ w → (∀ i, (J.map (·.1)).contains i = true → δ i = true) → (∀ i, (J.map (·.1)).contains i = true → Fx F C i (ν i) w) → wpAnyT P .any ops (Only (Q .normal)) (fun _ => True) [] fuel (pickSet (J.map (·.1)) (Array.replicate ops.size false)) (putsν ν J a) w) : (Code.region id ops true).wp P Q a w :=
  plain_rob (J.map (·.1)) U G S (Fx F C) fuel hm hB h0 (fun i v w w' h hg => ⟨h.val, fun φ hφ => hC _ (lookup_mem hφ) v w w' (h.is φ hφ) hg⟩) (HopsD.all hJ J hop) (fun ν δ w hs hd hf => by
    rw [lay_puts ν J a hJ]
    exact hend ν δ w hs (fun i hi => hd i (List.contains_iff_mem.1 hi)) (fun i hi => hf i (List.contains_iff_mem.1 hi)))
/-- .. and here it doesn't -/
def Hops (P : Program) (ops : Array Oper) (G : World → World → Prop) (S : World → Prop) (F : List (Nat × Value)) (C : List (Nat × (Value → World → Prop))) (J : List (Nat × Option Tmp)) (a : Act) : List (Nat × Option Tmp) → Prop
  | [] => True
  | (i, _) :: r => (∃ o, ops[i]? = some o ∧ ∀ (ν : Nat → Value) (U : World), S U → (∀ j, o.after.any (fun e => Region.binds .any e && e.on == j) = true → (J.map (·.1)).contains j = true → Fx F C j (ν j) U) → Yld P ops o (putsν ν J a) U (fun v V => G U V ∧ Fx F C i v V)) ∧ Hops P ops G S F C J a r
theorem Hops.toD {ops : Array Oper} {G : World → World → Prop} {S : World → Prop} {F : List (Nat × Value)} {C : List (Nat × (Value → World → Prop))} {J : List (Nat × Option Tmp)} {a : Act} (hS : ∀ U V, S U → G U V → S V) : ∀ (r : List (Nat × Option Tmp)), Hops P ops G S F C J a r → HopsD P ops G (fun _ => S) F C J a r
  | [], _ => trivial
  | (_, _) :: r, h => by
    obtain ⟨⟨o, ho, hh⟩, ht⟩ := h
    exact ⟨⟨o, ho, fun ν δ U hU _ _ _ hp => (hh ν U hU hp).mono fun v V hv => ⟨hv.1, hS U V hU hv.1, hv.2⟩⟩, Hops.toD hS r ht⟩
theorem plain_robJ {id : Nat} {ops : Array Oper} {a : Act} {w : World} {Q : Exit → Act → World → Prop} (J : List (Nat × Option Tmp)) (U : List Nat) (G : World → World → Prop) (S : World → Prop) (F : List (Nat × Value)) (C : List (Nat × (Value → World → Prop))) (fuel : Nat) (hm : P.follows .mixedOrders = true)
    (hB : (robB .any ops (Array.replicate ops.size false) (J.map (·.1)) && topB .any ops (Array.replicate ops.size false) [] (J.map (·.1)) && outB .any ops (Array.replicate ops.size false) (J.map (·.1)) U && decide (J.map (·.1)).Nodup && (fuel + (J.map (·.1)).length == ops.size)) = true)
    (hJ : (J.all fun p => dstOf ops p.1 == p.2) = true)
    (h0 : S w.drew) (hS : ∀ U V, S U → G U V → S V) (hC : ∀ p ∈ C, ∀ v U V, p.2 v U → G U V → p.2 v V)
    (hop : Hops P ops G S F C J a J)
    (hend : ∀ (ν : Nat → Value) w, S w → (∀ i, (J.map (·.1)).contains i = true → Fx F C i (ν i) w) → wpAnyT P .any ops (Only (Q .normal)) (fun _ => True) [] fuel (pickSet (J.map (·.1)) (Array.replicate ops.size false)) (putsν ν J a) w) : (Code.region id ops true).wp P Q a w :=
  plain_robD J U G (fun _ => S) F C fuel hm hB hJ h0 hC (Hops.toD hS J hop) (fun ν _ w hs _ hf => hend ν w hs hf)
theorem zr : (∀ (ν : Nat → Value) (a : Act), putsν ν [] a = a) ∧ (∀ (ν : Nat → Value) (j : Nat) (d : Option Tmp) (r : List (Nat × Option Tmp)) (a : Act), putsν ν ((j, d) :: r) a = putsν ν r (a.put d (ν j))) := ⟨fun _ _ => rfl, fun _ _ _ _ _ => rfl⟩
theorem zv {o : Oper} {J : List (Nat × Option Tmp)} {F : List (Nat × Value)} {C : List (Nat × (Value → World → Prop))} {ν : Nat → Value} {U : World} (hp : ∀ j, o.after.any (fun e => Region.binds .any e && e.on == j) = true → (J.map (·.1)).contains j = true → Fx F C j (ν j) U) (j : Nat) {u : Value} (h1 : o.after.any (fun e => Region.binds .any e && e.on == j) = true := by kernel_rfl) (h2 : (J.map (·.1)).contains j = true := by kernel_rfl) (h3 : F.lookup j = some u := by rfl) : ν j = u := (hp j h1 h2).val _ h3
theorem zu {o : Oper} {J : List (Nat × Option Tmp)} {F : List (Nat × Value)} {C : List (Nat × (Value → World → Prop))} {ν : Nat → Value} {U : World} (hp : ∀ j, o.after.any (fun e => Region.binds .any e && e.on == j) = true → (J.map (·.1)).contains j = true → Fx F C j (ν j) U) (j : Nat) {φ : Value → World → Prop} (h1 : o.after.any (fun e => Region.binds .any e && e.on == j) = true := by kernel_rfl) (h2 : (J.map (·.1)).contains j = true := by kernel_rfl) (h3 : C.lookup j = some φ := by rfl) : φ (ν j) U := (hp j h1 h2).is _ h3
theorem zw {J : List (Nat × Option Tmp)} {F : List (Nat × Value)} {C : List (Nat × (Value → World → Prop))} {ν : Nat → Value} {U : World} (hf : ∀ i, (J.map (·.1)).contains i = true → Fx F C i (ν i) U) (j : Nat) {u : Value} (h2 : (J.map (·.1)).contains j = true := by kernel_rfl) (h3 : F.lookup j = some u := by rfl) : ν j = u := (hf j h2).val _ h3
theorem zt {J : List (Nat × Option Tmp)} {F : List (Nat × Value)} {C : List (Nat × (Value → World → Prop))} {ν : Nat → Value} {U : World} (hf : ∀ i, (J.map (·.1)).contains i = true → Fx F C i (ν i) U) (j : Nat) {φ : Value → World → Prop} (h2 : (J.map (·.1)).contains j = true := by kernel_rfl) (h3 : C.lookup j = some φ := by rfl) : φ (ν j) U := (hf j h2).is _ h3
theorem zy {ops : Array Oper} {o : Oper} {a : Act} {U : World} {F : List (Nat × Value)} {C : List (Nat × (Value → World → Prop))} {i : Nat} {v : Value} (hF : F.lookup i = some v := by rfl) (hC : C.lookup i = none := by rfl) (hw : Region.wanted o (yielded ops a.tmps) = true := by kernel_rfl) (h : (execOp a.eval o).run P U = .ok (.value v) U := by go_simp) : Yld P ops o a U (fun v V => Below U.heap.size U V ∧ Fx F C i v V) := Yld.value v U hw h ⟨Below.refl _ _, Fx.fixed hF hC⟩
theorem zyD {ops : Array Oper} {o : Oper} {a : Act} {U : World} {R : Value → World → Prop} (v : Value) (hR : R v U) (hw : Region.wanted o (yielded ops a.tmps) = true := by kernel_rfl) (h : (execOp a.eval o).run P U = .ok (.value v) U := by go_simp) : Yld P ops o a U R := Yld.value v U hw h hR
theorem zc {ops : Array Oper} {o : Oper} {a : Act} {w : World} {R : Value → World → Prop} {R0 : Ending → World → Prop} (f : FuncId) (args : Array Value) (hc : Calls P f args w R0) (hm : ∀ e w', R0 e w' → ∃ v, e = .returned v ∧ R v w' := by rintro e V ⟨rfl, hb⟩; exact ⟨_, rfl, hb, Fx.fixed rfl rfl⟩) (hw : Region.wanted o (yielded ops a.tmps) = true := by kernel_rfl) (h : (execOp a.eval o).run P w = .ok (.enter f args) w := by go_simp) : Yld P ops o a w R := Yld.call f args hw h (hc.mono hm)
end Rob
end Go.Proofs.YtfibapfehgglhaaGreatDoor
