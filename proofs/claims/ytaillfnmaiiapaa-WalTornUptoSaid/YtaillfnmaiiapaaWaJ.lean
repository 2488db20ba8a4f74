/-
  What bytes begin with, in generation 1: the walk.
-/
import Derived.Test.YtaillfnmaiiapaaWaI
namespace Go.Proofs.Ytaillfnmaiiapaa
open Go.RowKit
/-- a change whose labels are the call's own -/
structure RecOwn (w : World) (base : Nat) (x : RAt) : Prop where
  rec_ : RecIn w x.A x.r
  own : w.ownsRow base 54 2 (.slice x.A x.r.l.length x.c) x.r.l.length (labCells x.r.l)
theorem own_rkeeps {w w2 : World} {mb base e k n : Nat} {v : Value} {xs : List Value} (h : w.ownsRow base e k v n xs) (hk : RKeeps mb w w2) (hm : ∀ cs fr, w.heap[mb]? ≠ some (.cells cs e fr)) (he : e ≠ 78 ∧ e ≠ 9 ∧ e ≠ 131) : w2.ownsRow base e k v n xs := by
  refine ⟨h.1, ?_⟩
  rcases h.2 with h0 | ⟨g, cap, cur, rfl, hb, hc, hx⟩
  · exact Or.inl h0
  · exact Or.inr ⟨g, cap, cur, rfl, hb, hk g _ hc (by rintro rfl; exact hm _ _ hc) (fun cs T fr e2 => by cases e2; exact he), hx⟩
theorem NamesIn.mcells {w : World} {base nb mb : Nat} {v : Value} {K : List ByteArray} (h : NamesIn w base nb mb v K) (e : TypeId) : ∀ cs fr, w.heap[mb]? ≠ some (.cells cs e fr) := by
  intro cs fr hc
  obtain ⟨es, clock, hb, -⟩ := h.map
  rw [hb] at hc
  cases hc
theorem RecOwn.of_own {w w2 : World} {base : Nat} {x : RAt} (h : RecOwn w base x) (ho : w2.ownsRow base 54 2 (.slice x.A x.r.l.length x.c) x.r.l.length (labCells x.r.l)) : RecOwn w2 base x := by
  obtain ⟨A2, c2, e, -, -, hr⟩ := own_lab ho
  cases e
  exact ⟨⟨hr, h.rec_.len, h.rec_.small, h.rec_.words⟩, ho⟩
theorem RecOwn.kept {w w2 : World} {base mb : Nat} {x : RAt} (h : RecOwn w base x) (hk : RKeeps mb w w2) (hm : ∀ cs fr, w.heap[mb]? ≠ some (.cells cs 54 fr)) : RecOwn w2 base x := h.of_own (own_rkeeps h.own hk hm ⟨by decide, by decide, by decide⟩)
theorem RecOwn.later {w w2 : World} {base : Nat} {x : RAt} (h : RecOwn w base x) (hb : Below w.heap.size w w2) : RecOwn w2 base x := h.of_own (row_far h.own hb)
/-- what take comes to -/
def TookEnd (w : World) (base nb mb : Nat) (X : List Wa.Rec × List ByteArray × ByteArray × Nat) (e : Ending) (w' : World) : Prop :=
  ∃ A c q v', e = .returned (.tuple #[.slice A X.1.length c, .string X.2.2.1, .int .i64 ((X.2.2.2 : Nat) : Int)]) ∧ X.1 = (List.range X.1.length).map (recF q) ∧ (A = none → X.1.length = 0 ∧ c = 0) ∧ Row 5 (rx q) w' A X.1.length ∧ (∀ i, i < X.1.length → RecOwn w' base (q i)) ∧
    NamesIn w' base nb mb v' X.2.1 ∧ RKeeps mb w w' ∧ Below base w w'
/-- nothing was taken -/
theorem TookEnd.none_ {w w' : World} {base nb mb : Nat} {v' : Value} {K : List ByteArray} {s : ByteArray} {n : Nat} (h : NamesIn w' base nb mb v' K) (hk : RKeeps mb w w') (hb : Below base w w') : TookEnd w base nb mb ([], K, s, n) (.returned (.tuple #[.slice none 0 0, .string s, .int .i64 (n : Int)])) w' :=
  ⟨none, 0, fun _ => ⟨⟨0, [], 0, 0, 0⟩, none, 0⟩, v', rfl, rfl, fun _ => ⟨rfl, rfl⟩, fun h0 => absurd h0 (Nat.lt_irrefl 0), fun i hi => absurd hi (Nat.not_lt_zero i), h, hk, hb⟩
theorem i64_bounds (n : Int) : -9223372036854775808 ≤ IntKind.i64.wrap n ∧ IntKind.i64.wrap n ≤ 9223372036854775807 := by rw [IntKind.wrap_i64]; omega
theorem Wa.i64_bounds (n : Nat) : -9223372036854775808 ≤ Wa.i64 n ∧ Wa.i64 n ≤ 9223372036854775807 := Go.Proofs.Ytaillfnmaiiapaa.i64_bounds _
theorem Wa.take_size (c : Wa.Cu) (m : Int) : (c.take m).2.s.size ≤ c.s.size := Wa.go_size _ _ _ _ _
theorem Wa.wide_size2 (c : Wa.Cu) : c.wide.2.s.size ≤ c.s.size := Wa.go_size _ _ _ _ _
theorem at_mem {L : List Lab} {i : Nat} (hi : i < L.length) : La.at_ L i ∈ L := by
  unfold La.at_
  rw [List.getD_eq_getElem?_getD, List.getElem?_eq_getElem hi]
  exact List.getElem_mem hi
theorem Wa.rdFix_small {s : ByteArray} (hs : s.size ≤ 300) : (Wa.rdFix s).1.l.length ≤ 6 ∧ (∀ i, i < (Wa.rdFix s).1.l.length → (La.at_ (Wa.rdFix s).1.l i).1.size ≤ 300 ∧ (La.at_ (Wa.rdFix s).1.l i).2.size ≤ 300) ∧ Wa.Words (Wa.rdFix s).1 := by
  have h1 := Wa.take_size ⟨s, false⟩ 1
  have h2 := Wa.wide_size2 (Wa.Cu.take ⟨s, false⟩ 1).2
  have h3 := Wa.wide_size2 (Wa.Cu.take ⟨s, false⟩ 1).2.wide.2
  have h4 := Wa.wide_size2 (Wa.Cu.take ⟨s, false⟩ 1).2.wide.2.wide.2
  have h5 := Wa.take_size (Wa.Cu.take ⟨s, false⟩ 1).2.wide.2.wide.2.wide.2 1
  have h6 := Wa.labs_small (Fr.at_ ((Wa.Cu.take ⟨s, false⟩ 1).2.wide.2.wide.2.wide.2.take 1).1 0) 300 6 ((Wa.Cu.take ⟨s, false⟩ 1).2.wide.2.wide.2.wide.2.take 1).2 (by dsimp only at h1; omega)
  refine ⟨h6.2.1, fun i hi => h6.2.2 _ (at_mem hi), (Wa.i64_bounds _).1, (Wa.i64_bounds _).2, (Wa.i64_bounds _).1, (Wa.i64_bounds _).2, Wa.wide_lt _⟩
theorem Wa.take1_short {s : ByteArray} (h : s.size < 186) : Wa.take1 s = ([], s, 1) := by unfold Wa.take1; rw [if_pos h]
set_option maxRecDepth 100000 in
set_option maxHeartbeats 4000000 in
theorem take1_any (nb0 : Nat) (s : ByteArray) (hs : s.size ≤ maxLen) {w : World} {base nb mb : Nat} {v : Value} {K : List ByteArray} (h : NamesIn w base nb mb v K) :
    Calls Try.prog 60 #[.agg #[.pointer (some ⟨nb0, 0, none⟩)], .string s] w (TookEnd w base nb mb ((Wa.take1 s).1, K, (Wa.take1 s).2)) := by
  have H := Lib.hid h
  have hbs : base ≤ w.heap.size := by have h1 := (Array.getElem?_eq_some_iff.1 h.cells).1; have h2 := h.nlo; omega
  have HBS := Lib.hid hbs
  clear h hbs
  unfold maxLen at hs
  obtain ⟨wa, hwa⟩ : ∃ wa, wa = w.alloc (.cells #[.pointer (some ⟨nb0, 0, none⟩)] 80) := ⟨_, rfl⟩
  have hba : Below w.heap.size w wa := by rw [hwa]; exact (Below.refl _ _).alloc (Nat.le_refl _) _
  have HBA := Lib.hid hba
  clear hba
  by_cases h1 : s.size < 186
  · have i1 : (s.size : Int) < 186 := by omega
    have d1 : decide ((s.size : Int) < 186) = true := decide_eq_true i1
    have d2 : decide (s.size < 186) = true := decide_eq_true h1
    rw [Wa.take1_short h1]
    go_enter Try.func60, Try.ntmps60
    go_wp2_with fail
    rw [← hwa]
    clear hwa
    go_ret3
    exact TookEnd.none_ (H.out.later HBA.out) (RKeeps.below HBA.out) (HBA.out.mono HBS.out)
  · have d1 : decide ((s.size : Int) < 186) = false := decide_eq_false (by omega)
    have d2 : decide (s.size < 186) = false := decide_eq_false h1
    have hz : (s.extract 0 186).size = 186 := by rw [ByteArray.size_extract]; omega
    have htk : Wa.take1 s = if (Wa.rdFix (s.extract 0 186)).2 = true ∧ Wa.fix (Wa.rdFix (s.extract 0 186)).1 = s.extract 0 186 then ([(Wa.rdFix (s.extract 0 186)).1], s.extract 186 s.size, 0) else ([], s, 2) := by
      unfold Wa.take1; rw [if_neg h1]
    rw [htk]
    have HRF := Lib.hid (fun W => readFixed_any (s.extract 0 186) hz W)
    have hsm := Wa.rdFix_small (s := s.extract 0 186) (by omega)
    have HFX := Lib.hid (fun (A : Option Addr) (c : Nat) W hW => fixed_any (Wa.rdFix (s.extract 0 186)).1 A c W hW hsm.1)
    obtain ⟨X, hX⟩ : ∃ X : List Wa.Rec × ByteArray × Nat, X = if (Wa.rdFix (s.extract 0 186)).2 = true ∧ Wa.fix (Wa.rdFix (s.extract 0 186)).1 = s.extract 0 186 then ([(Wa.rdFix (s.extract 0 186)).1], s.extract 186 s.size, 0) else ([], s, 2) := ⟨_, rfl⟩
    rw [← hX]
    have HX := Lib.hid hX
    have HSM := Lib.hid hsm
    clear htk hX hsm hz
    generalize Wa.rdFix (s.extract 0 186) = R at *
    generalize hp : s.extract 0 186 = p at *
    generalize hq : s.extract 186 s.size = q at *
    have HPQ := Lib.hid (And.intro hp hq)
    go_enter Try.func60, Try.ntmps60
    go_wp2_with fail
    rw [← hwa]
    clear hwa
    refine (HRF.out wa).mono ?_; rintro e w1 ⟨A, c, rfl, hown, hb1⟩
    obtain ⟨r, ok⟩ := R
    simp only at HSM HX hown HFX ⊢
    have HB1 := Lib.hid (below_step HBA.out hb1)
    have HO1 := Lib.hid (own_from (b2 := base) hown.2 (by have := HBS.out; have := HBA.out.size; omega))
    have hrow1 := hown.1
    have HRI : Hid (RecIn w1 A r) := Lib.hid ⟨hown.1, by have := HSM.out.1; omega, HSM.out.2.1, HSM.out.2.2⟩
    clear hb1 hown hrow1 HRF
    obtain ⟨w2, hw2⟩ : ∃ w2, w2 = w1.alloc (.cells (recC r A c) 52) := ⟨_, rfl⟩
    have hb2 : Below w1.heap.size w1 w2 := by rw [hw2]; exact (Below.refl _ _).alloc (Nat.le_refl _) _
    have hx2 : w2.heap[w1.heap.size]? = some (.cells (recC r A c) 52 (0, 0)) := by rw [hw2]; exact heap_alloc_new w1 _
    have HB2 := Lib.hid (below_step HB1.out hb2); have HO2 := Lib.hid (row_far HO1.out hb2); have HR2 := Lib.hid (HRI.out.later hb2)
    have HC2 := Lib.hid hx2
    have HFX2 := Lib.hid (fun U (hU : Below w2.heap.size w2 U) => HFX.out A c U (HR2.out.later hU))
    have HS2 : Hid (∀ U, Below w2.heap.size w2 U → NamesIn U base nb mb v K ∧ RKeeps mb w U ∧ Below base w U) := Lib.hid (fun U hU => ⟨H.out.later (below_step HB2.out hU), RKeeps.below (below_step HB2.out hU), (below_step HB2.out hU).mono HBS.out⟩)
    unfold recC at hw2 hx2 HC2 HFX2 ⊢
    obtain ⟨rb, hrb⟩ : ∃ rb, rb = w1.heap.size := ⟨_, rfl⟩
    rw [← hrb] at hx2 HC2
    clear hx2 hb2 HFX HRI HB1 HO1
    cases ok
    · have HXN : Hid (X = ([], s, 2)) := Lib.hid (by rw [HX.out, if_neg (by simp)])
      clear HX
      go_wp2_with fail
      rw [← hw2, ← hrb]
      clear hw2 hrb
      refine plain_robJ [(0, some 19), (1, some 20), (2, some 21), (3, some 22), (4, some 23), (5, some 24), (6, some 25), (7, some 26), (8, some 27)] [] (fun U V => Below U.heap.size U V) (fun U => Below w2.heap.size w2 U) [(0, .bool false), (1, .bool true), (2, .bool true), (3, undef), (4, undef), (5, undef), (6, undef), (7, undef), (8, .bool true)] [] 0 (by kernel_rfl) (by kernel_rfl) (by kernel_rfl) ((Below.refl _ _).drew) (fun U V h hb => h.trans (hb.mono h.size)) ?_ ?_ ?_
      · intro p hp; cases hp
      · refine ⟨⟨_, rfl, fun ν U hU hp => ?_⟩, ?_⟩
        · simp only [putsν, Act.put, List.setIfInBounds_toArray, List.set_cons_zero, List.set_cons_succ]
          exact Yld.value (.bool false) U (by kernel_rfl) (by go_simp) ⟨Below.refl _ _, Fx.fixed rfl rfl⟩
        refine ⟨⟨_, rfl, fun ν U hU hp => ?_⟩, ?_⟩
        · simp only [putsν, Act.put, List.setIfInBounds_toArray, List.set_cons_zero, List.set_cons_succ]
          have e0 := (hp 0 (by kernel_rfl) (by kernel_rfl)).val _ rfl
          simp only [e0]
          exact Yld.value (.bool true) U (by kernel_rfl) (by go_simp) ⟨Below.refl _ _, Fx.fixed rfl rfl⟩
        refine ⟨⟨_, rfl, fun ν U hU hp => ?_⟩, ?_⟩
        · simp only [putsν, Act.put, List.setIfInBounds_toArray, List.set_cons_zero, List.set_cons_succ]
          have e1 := (hp 1 (by kernel_rfl) (by kernel_rfl)).val _ rfl
          simp only [e1]
          exact Yld.value (.bool true) U (by kernel_rfl) (by go_simp) ⟨Below.refl _ _, Fx.fixed rfl rfl⟩
        refine ⟨⟨_, rfl, fun ν U hU hp => ?_⟩, ?_⟩
        · simp only [putsν, Act.put, List.setIfInBounds_toArray, List.set_cons_zero, List.set_cons_succ]
          have e2 := (hp 2 (by kernel_rfl) (by kernel_rfl)).val _ rfl
          simp only [e2]
          exact Yld.skip (by kernel_rfl) ⟨Below.refl _ _, Fx.fixed rfl rfl⟩
        refine ⟨⟨_, rfl, fun ν U hU hp => ?_⟩, ?_⟩
        · simp only [putsν, Act.put, List.setIfInBounds_toArray, List.set_cons_zero, List.set_cons_succ]
          have e2 := (hp 2 (by kernel_rfl) (by kernel_rfl)).val _ rfl
          have e3 := (hp 3 (by kernel_rfl) (by kernel_rfl)).val _ rfl
          simp only [e2, e3]
          exact Yld.skip (by kernel_rfl) ⟨Below.refl _ _, Fx.fixed rfl rfl⟩
        refine ⟨⟨_, rfl, fun ν U hU hp => ?_⟩, ?_⟩
        · simp only [putsν, Act.put, List.setIfInBounds_toArray, List.set_cons_zero, List.set_cons_succ]
          have e2 := (hp 2 (by kernel_rfl) (by kernel_rfl)).val _ rfl
          simp only [e2]
          exact Yld.skip (by kernel_rfl) ⟨Below.refl _ _, Fx.fixed rfl rfl⟩
        refine ⟨⟨_, rfl, fun ν U hU hp => ?_⟩, ?_⟩
        · simp only [putsν, Act.put, List.setIfInBounds_toArray, List.set_cons_zero, List.set_cons_succ]
          have e2 := (hp 2 (by kernel_rfl) (by kernel_rfl)).val _ rfl
          have e5 := (hp 5 (by kernel_rfl) (by kernel_rfl)).val _ rfl
          simp only [e2, e5]
          exact Yld.skip (by kernel_rfl) ⟨Below.refl _ _, Fx.fixed rfl rfl⟩
        refine ⟨⟨_, rfl, fun ν U hU hp => ?_⟩, ?_⟩
        · simp only [putsν, Act.put, List.setIfInBounds_toArray, List.set_cons_zero, List.set_cons_succ]
          have e2 := (hp 2 (by kernel_rfl) (by kernel_rfl)).val _ rfl
          have e4 := (hp 4 (by kernel_rfl) (by kernel_rfl)).val _ rfl
          have e6 := (hp 6 (by kernel_rfl) (by kernel_rfl)).val _ rfl
          simp only [e2, e4, e6]
          exact Yld.skip (by kernel_rfl) ⟨Below.refl _ _, Fx.fixed rfl rfl⟩
        refine ⟨⟨_, rfl, fun ν U hU hp => ?_⟩, ?_⟩
        · simp only [putsν, Act.put, List.setIfInBounds_toArray, List.set_cons_zero, List.set_cons_succ]
          have e2 := (hp 2 (by kernel_rfl) (by kernel_rfl)).val _ rfl
          have e7 := (hp 7 (by kernel_rfl) (by kernel_rfl)).val _ rfl
          simp only [e2, e7]
          exact Yld.value (.bool true) U (by kernel_rfl) (by go_simp) ⟨Below.refl _ _, Fx.fixed rfl rfl⟩
        trivial
      intro ν w3 hS3 hf
      have e0 := (hf 0 (by kernel_rfl)).val _ rfl
      have e1 := (hf 1 (by kernel_rfl)).val _ rfl
      have e2 := (hf 2 (by kernel_rfl)).val _ rfl
      have e3 := (hf 3 (by kernel_rfl)).val _ rfl
      have e4 := (hf 4 (by kernel_rfl)).val _ rfl
      have e5 := (hf 5 (by kernel_rfl)).val _ rfl
      have e6 := (hf 6 (by kernel_rfl)).val _ rfl
      have e7 := (hf 7 (by kernel_rfl)).val _ rfl
      have e8 := (hf 8 (by kernel_rfl)).val _ rfl
      simp only [putsν, Act.put, List.setIfInBounds_toArray, List.set_cons_zero, List.set_cons_succ, e0, e1, e2, e3, e4, e5, e6, e7, e8]
      clear hf e0 e1 e2 e3 e4 e5 e6 e7 e8
      refine wpAnyT_done (by kernel_rfl) ?_ _
      refine only_mk ?_
      go_wp2_with fail
      go_ret3
      rw [HXN.out]
      obtain ⟨k1, k2, k3⟩ := HS2.out _ hS3
      exact TookEnd.none_ k1 k2 k3
    · obtain ⟨fx, hfx⟩ : ∃ fx, fx = Wa.fix r := ⟨_, rfl⟩
      rw [← hfx] at HX HFX2
      clear hfx
      have i2 : ¬ ((s.size : Int) < 186) := by omega
      by_cases he : fx = p
      · have HXN : Hid (X = ([r], q, 0)) := Lib.hid (by rw [HX.out, if_pos ⟨rfl, he⟩])
        subst he
        have b0 : (!fx.toList == fx.toList) = false := by simp
        have b1 : (fx.toList == fx.toList) = true := by simp
        clear HX
        go_wp2_with fail
        rw [← hw2, ← hrb]
        clear hw2 hrb
        refine plain_robJ [(0, some 19), (1, some 20), (2, some 21), (3, some 22), (4, some 23), (5, some 24), (6, some 25), (7, some 26), (8, some 27)] [] (fun U V => Below U.heap.size U V) (fun U => Below w2.heap.size w2 U ∧ U.heap[rb]? = some (.cells #[.int .i64 r.kind, .slice A r.l.length c, .int .i64 r.t, .int .i64 r.hi, .int .u64 (r.v : Int)] 52 (0, 0))) [(0, .bool true), (1, .bool false), (2, .bool false), (3, .agg #[.int .i64 r.kind, .slice A r.l.length c, .int .i64 r.t, .int .i64 r.hi, .int .u64 (r.v : Int)]), (4, .string fx), (5, .string s), (6, .string fx), (7, .bool false), (8, .bool false)] [] 0 (by kernel_rfl) (by kernel_rfl) (by kernel_rfl) (⟨(Below.refl _ _).drew, HC2.out⟩) (fun U V h hb => ⟨h.1.trans (hb.mono h.1.size), heap_keep h.2 hb⟩) ?_ ?_ ?_
        · intro p hp; cases hp
        · refine ⟨⟨_, rfl, fun ν U hU hp => ?_⟩, ?_⟩
          · simp only [putsν, Act.put, List.setIfInBounds_toArray, List.set_cons_zero, List.set_cons_succ]
            exact Yld.value (.bool true) U (by kernel_rfl) (by go_simp) ⟨Below.refl _ _, Fx.fixed rfl rfl⟩
          refine ⟨⟨_, rfl, fun ν U hU hp => ?_⟩, ?_⟩
          · simp only [putsν, Act.put, List.setIfInBounds_toArray, List.set_cons_zero, List.set_cons_succ]
            have e0 := (hp 0 (by kernel_rfl) (by kernel_rfl)).val _ rfl
            simp only [e0]
            exact Yld.value (.bool false) U (by kernel_rfl) (by go_simp) ⟨Below.refl _ _, Fx.fixed rfl rfl⟩
          refine ⟨⟨_, rfl, fun ν U hU hp => ?_⟩, ?_⟩
          · simp only [putsν, Act.put, List.setIfInBounds_toArray, List.set_cons_zero, List.set_cons_succ]
            have e1 := (hp 1 (by kernel_rfl) (by kernel_rfl)).val _ rfl
            simp only [e1]
            exact Yld.value (.bool false) U (by kernel_rfl) (by go_simp) ⟨Below.refl _ _, Fx.fixed rfl rfl⟩
          refine ⟨⟨_, rfl, fun ν U hU hp => ?_⟩, ?_⟩
          · simp only [putsν, Act.put, List.setIfInBounds_toArray, List.set_cons_zero, List.set_cons_succ]
            have e2 := (hp 2 (by kernel_rfl) (by kernel_rfl)).val _ rfl
            simp only [e2]
            exact Yld.value (.agg #[.int .i64 r.kind, .slice A r.l.length c, .int .i64 r.t, .int .i64 r.hi, .int .u64 (r.v : Int)]) U (by kernel_rfl) (by have x0 := cell_of_row _ _ 0 _ _ _ hU.2; have x1 := cell_of_row _ _ 1 _ _ _ hU.2; have x2 := cell_of_row _ _ 2 _ _ _ hU.2; have x3 := cell_of_row _ _ 3 _ _ _ hU.2; have x4 := cell_of_row _ _ 4 _ _ _ hU.2; simp only [List.getElem?_toArray, List.getElem?_cons_zero, List.getElem?_cons_succ] at x0 x1 x2 x3 x4; go_simp) ⟨Below.refl _ _, Fx.fixed rfl rfl⟩
          refine ⟨⟨_, rfl, fun ν U hU hp => ?_⟩, ?_⟩
          · simp only [putsν, Act.put, List.setIfInBounds_toArray, List.set_cons_zero, List.set_cons_succ]
            have e2 := (hp 2 (by kernel_rfl) (by kernel_rfl)).val _ rfl
            have e3 := (hp 3 (by kernel_rfl) (by kernel_rfl)).val _ rfl
            simp only [e2, e3]
            refine Yld.call 62 #[.agg #[.int .i64 r.kind, .slice A r.l.length c, .int .i64 r.t, .int .i64 r.hi, .int .u64 (r.v : Int)]] (by kernel_rfl) (by go_simp) ?_
            have hcall := HFX2.out U hU.1
            refine hcall.mono ?_
            rintro e V ⟨rfl, hb⟩; exact ⟨_, rfl, hb, Fx.fixed rfl rfl⟩
          refine ⟨⟨_, rfl, fun ν U hU hp => ?_⟩, ?_⟩
          · simp only [putsν, Act.put, List.setIfInBounds_toArray, List.set_cons_zero, List.set_cons_succ]
            have e2 := (hp 2 (by kernel_rfl) (by kernel_rfl)).val _ rfl
            simp only [e2]
            exact Yld.value (.string s) U (by kernel_rfl) (by go_simp) ⟨Below.refl _ _, Fx.fixed rfl rfl⟩
          refine ⟨⟨_, rfl, fun ν U hU hp => ?_⟩, ?_⟩
          · simp only [putsν, Act.put, List.setIfInBounds_toArray, List.set_cons_zero, List.set_cons_succ]
            have e2 := (hp 2 (by kernel_rfl) (by kernel_rfl)).val _ rfl
            have e5 := (hp 5 (by kernel_rfl) (by kernel_rfl)).val _ rfl
            simp only [e2, e5]
            exact Yld.value (.string fx) U (by kernel_rfl) (by go_simp) ⟨Below.refl _ _, Fx.fixed rfl rfl⟩
          refine ⟨⟨_, rfl, fun ν U hU hp => ?_⟩, ?_⟩
          · simp only [putsν, Act.put, List.setIfInBounds_toArray, List.set_cons_zero, List.set_cons_succ]
            have e2 := (hp 2 (by kernel_rfl) (by kernel_rfl)).val _ rfl
            have e4 := (hp 4 (by kernel_rfl) (by kernel_rfl)).val _ rfl
            have e6 := (hp 6 (by kernel_rfl) (by kernel_rfl)).val _ rfl
            simp only [e2, e4, e6]
            exact Yld.value (.bool false) U (by kernel_rfl) (by go_simp) ⟨Below.refl _ _, Fx.fixed rfl rfl⟩
          refine ⟨⟨_, rfl, fun ν U hU hp => ?_⟩, ?_⟩
          · simp only [putsν, Act.put, List.setIfInBounds_toArray, List.set_cons_zero, List.set_cons_succ]
            have e2 := (hp 2 (by kernel_rfl) (by kernel_rfl)).val _ rfl
            have e7 := (hp 7 (by kernel_rfl) (by kernel_rfl)).val _ rfl
            simp only [e2, e7]
            exact Yld.value (.bool false) U (by kernel_rfl) (by go_simp) ⟨Below.refl _ _, Fx.fixed rfl rfl⟩
          trivial
        intro ν w3 hS3 hf
        have e0 := (hf 0 (by kernel_rfl)).val _ rfl
        have e1 := (hf 1 (by kernel_rfl)).val _ rfl
        have e2 := (hf 2 (by kernel_rfl)).val _ rfl
        have e3 := (hf 3 (by kernel_rfl)).val _ rfl
        have e4 := (hf 4 (by kernel_rfl)).val _ rfl
        have e5 := (hf 5 (by kernel_rfl)).val _ rfl
        have e6 := (hf 6 (by kernel_rfl)).val _ rfl
        have e7 := (hf 7 (by kernel_rfl)).val _ rfl
        have e8 := (hf 8 (by kernel_rfl)).val _ rfl
        simp only [putsν, Act.put, List.setIfInBounds_toArray, List.set_cons_zero, List.set_cons_succ, e0, e1, e2, e3, e4, e5, e6, e7, e8]
        clear hf e0 e1 e2 e3 e4 e5 e6 e7 e8
        refine wpAnyT_done (by kernel_rfl) ?_ _
        refine only_mk ?_
        go_wp2_with fail
        refine plain_robJ [(0, some 29), (1, some 30), (2, some 31), (3, some 32), (4, some 4)] [5, 6] (fun U V => Below U.heap.size U V) (fun U => Below w2.heap.size w2 U ∧ U.heap[rb]? = some (.cells #[.int .i64 r.kind, .slice A r.l.length c, .int .i64 r.t, .int .i64 r.hi, .int .u64 (r.v : Int)] 52 (0, 0))) [(0, .agg #[.int .i64 r.kind, .slice A r.l.length c, .int .i64 r.t, .int .i64 r.hi, .int .u64 (r.v : Int)]), (2, .string s), (3, .string q)] [(1, (fun x W => ∃ b, x = .slice (some ⟨b, 0, none⟩) 1 1 ∧ W.heap[b]? = some (.cells #[.int .i64 r.kind, .slice A r.l.length c, .int .i64 r.t, .int .i64 r.hi, .int .u64 (r.v : Int)] 52 (0, 0)) : Value → World → Prop)), (4, (fun x W => ∃ b, x = .slice (some ⟨b, 0, none⟩) 1 1 ∧ W.heap[b]? = some (.cells #[.int .i64 r.kind, .slice A r.l.length c, .int .i64 r.t, .int .i64 r.hi, .int .u64 (r.v : Int)] 52 (0, 0)) : Value → World → Prop))] 2 (by kernel_rfl) (by kernel_rfl) (by kernel_rfl) (⟨hS3.1.drew, hS3.2⟩) (fun U V h hb => ⟨h.1.trans (hb.mono h.1.size), heap_keep h.2 hb⟩) ?_ ?_ ?_
        · intro p hp
          simp only [List.mem_cons, List.not_mem_nil, or_false] at hp
          rcases hp with rfl | rfl
          · exact fun x U V h hb => by obtain ⟨b, e, hc⟩ := h; exact ⟨b, e, heap_keep hc hb⟩
          · exact fun x U V h hb => by obtain ⟨b, e, hc⟩ := h; exact ⟨b, e, heap_keep hc hb⟩
        · refine ⟨⟨_, rfl, fun ν U hU hp => ?_⟩, ?_⟩
          · simp only [putsν, Act.put, List.setIfInBounds_toArray, List.set_cons_zero, List.set_cons_succ]
            exact Yld.value (.agg #[.int .i64 r.kind, .slice A r.l.length c, .int .i64 r.t, .int .i64 r.hi, .int .u64 (r.v : Int)]) U (by kernel_rfl) (by have x0 := cell_of_row _ _ 0 _ _ _ hU.2; have x1 := cell_of_row _ _ 1 _ _ _ hU.2; have x2 := cell_of_row _ _ 2 _ _ _ hU.2; have x3 := cell_of_row _ _ 3 _ _ _ hU.2; have x4 := cell_of_row _ _ 4 _ _ _ hU.2; simp only [List.getElem?_toArray, List.getElem?_cons_zero, List.getElem?_cons_succ] at x0 x1 x2 x3 x4; go_simp) ⟨Below.refl _ _, Fx.fixed rfl rfl⟩
          refine ⟨⟨_, rfl, fun ν U hU hp => ?_⟩, ?_⟩
          · simp only [putsν, Act.put, List.setIfInBounds_toArray, List.set_cons_zero, List.set_cons_succ]
            have e0 := (hp 0 (by kernel_rfl) (by kernel_rfl)).val _ rfl
            simp only [e0]
            exact Yld.value (.slice (some ⟨U.heap.size, 0, none⟩) 1 1) _ (by kernel_rfl) (by go_simp) ⟨(Below.refl _ _).alloc (Nat.le_refl _) _, Fx.some_ rfl rfl ⟨_, rfl, heap_alloc_new U _⟩⟩
          refine ⟨⟨_, rfl, fun ν U hU hp => ?_⟩, ?_⟩
          · simp only [putsν, Act.put, List.setIfInBounds_toArray, List.set_cons_zero, List.set_cons_succ]
            exact Yld.value (.string s) U (by kernel_rfl) (by go_simp) ⟨Below.refl _ _, Fx.fixed rfl rfl⟩
          refine ⟨⟨_, rfl, fun ν U hU hp => ?_⟩, ?_⟩
          · simp only [putsν, Act.put, List.setIfInBounds_toArray, List.set_cons_zero, List.set_cons_succ]
            have e2 := (hp 2 (by kernel_rfl) (by kernel_rfl)).val _ rfl
            simp only [e2]
            exact Yld.value (.string q) U (by kernel_rfl) (by go_simp) ⟨Below.refl _ _, Fx.fixed rfl rfl⟩
          refine ⟨⟨_, rfl, fun ν U hU hp => ?_⟩, ?_⟩
          · simp only [putsν, Act.put, List.setIfInBounds_toArray, List.set_cons_zero, List.set_cons_succ]
            have c1 := (hp 1 (by kernel_rfl) (by kernel_rfl)).is _ rfl
            obtain ⟨b, hb, hc⟩ := c1
            simp only [hb]
            exact Yld.value (.slice (some ⟨b, 0, none⟩) 1 1) U (by kernel_rfl) (by go_simp) ⟨Below.refl _ _, Fx.some_ rfl rfl ⟨b, rfl, hc⟩⟩
          trivial
        intro ν w4 hS4 hf
        have e0 := (hf 0 (by kernel_rfl)).val _ rfl
        have c1 := (hf 1 (by kernel_rfl)).is _ rfl
        have e2 := (hf 2 (by kernel_rfl)).val _ rfl
        have e3 := (hf 3 (by kernel_rfl)).val _ rfl
        have c4 := (hf 4 (by kernel_rfl)).is _ rfl
        simp only [putsν, Act.put, List.setIfInBounds_toArray, List.set_cons_zero, List.set_cons_succ, e0, e2, e3]
        clear hf e0 e2 e3
        obtain ⟨b, hb, hc⟩ := c4
        simp only [hb]
        clear c1
        refine wpAnyT_pick (S := (fun _ => True)) (by kernel_rfl) Only.panic Only.keepsIn (w := w4) trivial [5, 6] 0 _ _ (by kernel_rfl) ?_
        refine PickT.value (d := some 5) (.string q) rfl rfl (by kernel_rfl) (fun U hU => (by go_simp)) ?_
        refine PickT.value (d := some 6) (.int .i64 0) rfl rfl (by kernel_rfl) (fun U hU => (by go_simp)) ?_
        simp only [PickT, Act.put, List.setIfInBounds_toArray, List.set_cons_zero, List.set_cons_succ]
        refine wpAnyT_done (by kernel_rfl) ?_ _
        refine only_mk ?_
        go_wp2_with fail
        go_ret3
        rw [HXN.out]
        obtain ⟨k1, k2, k3⟩ := HS2.out _ hS4.1
        have hown := row_far HO2.out hS4.1
        have hrl := HR2.out.later hS4.1
        refine ⟨some ⟨b, 0, none⟩, 1, fun _ => ⟨r, A, c⟩, v, rfl, rfl, (fun e => by cases e), ?_, fun i hi => ⟨hrl, hown⟩, k1, k2, k3⟩
        exact row_there 5 _ w4 b _ _ _ hc (fun j hj => by
          rcases (show j = 0 ∨ j = 1 ∨ j = 2 ∨ j = 3 ∨ j = 4 by omega) with rfl | rfl | rfl | rfl | rfl <;> rfl)
      · have HXN : Hid (X = ([], s, 2)) := Lib.hid (by rw [HX.out, if_neg (fun h => he h.2)])
        have b1 : (fx.toList == p.toList) = false := by rw [str_beq]; exact decide_eq_false he
        have b0 : (!fx.toList == p.toList) = true := by rw [b1]; rfl
        have b2 : ¬ fx.toList = p.toList := fun h => by rw [h] at b1; simp at b1
        clear HX
        go_wp2_with fail
        rw [← hw2, ← hrb]
        clear hw2 hrb
        refine plain_robJ [(0, some 19), (1, some 20), (2, some 21), (3, some 22), (4, some 23), (5, some 24), (6, some 25), (7, some 26), (8, some 27)] [] (fun U V => Below U.heap.size U V) (fun U => Below w2.heap.size w2 U ∧ U.heap[rb]? = some (.cells #[.int .i64 r.kind, .slice A r.l.length c, .int .i64 r.t, .int .i64 r.hi, .int .u64 (r.v : Int)] 52 (0, 0))) [(0, .bool true), (1, .bool false), (2, .bool false), (3, .agg #[.int .i64 r.kind, .slice A r.l.length c, .int .i64 r.t, .int .i64 r.hi, .int .u64 (r.v : Int)]), (4, .string fx), (5, .string s), (6, .string p), (7, .bool true), (8, .bool true)] [] 0 (by kernel_rfl) (by kernel_rfl) (by kernel_rfl) (⟨(Below.refl _ _).drew, HC2.out⟩) (fun U V h hb => ⟨h.1.trans (hb.mono h.1.size), heap_keep h.2 hb⟩) ?_ ?_ ?_
        · intro p hp; cases hp
        · refine ⟨⟨_, rfl, fun ν U hU hp => ?_⟩, ?_⟩
          · simp only [putsν, Act.put, List.setIfInBounds_toArray, List.set_cons_zero, List.set_cons_succ]
            exact Yld.value (.bool true) U (by kernel_rfl) (by go_simp) ⟨Below.refl _ _, Fx.fixed rfl rfl⟩
          refine ⟨⟨_, rfl, fun ν U hU hp => ?_⟩, ?_⟩
          · simp only [putsν, Act.put, List.setIfInBounds_toArray, List.set_cons_zero, List.set_cons_succ]
            have e0 := (hp 0 (by kernel_rfl) (by kernel_rfl)).val _ rfl
            simp only [e0]
            exact Yld.value (.bool false) U (by kernel_rfl) (by go_simp) ⟨Below.refl _ _, Fx.fixed rfl rfl⟩
          refine ⟨⟨_, rfl, fun ν U hU hp => ?_⟩, ?_⟩
          · simp only [putsν, Act.put, List.setIfInBounds_toArray, List.set_cons_zero, List.set_cons_succ]
            have e1 := (hp 1 (by kernel_rfl) (by kernel_rfl)).val _ rfl
            simp only [e1]
            exact Yld.value (.bool false) U (by kernel_rfl) (by go_simp) ⟨Below.refl _ _, Fx.fixed rfl rfl⟩
          refine ⟨⟨_, rfl, fun ν U hU hp => ?_⟩, ?_⟩
          · simp only [putsν, Act.put, List.setIfInBounds_toArray, List.set_cons_zero, List.set_cons_succ]
            have e2 := (hp 2 (by kernel_rfl) (by kernel_rfl)).val _ rfl
            simp only [e2]
            exact Yld.value (.agg #[.int .i64 r.kind, .slice A r.l.length c, .int .i64 r.t, .int .i64 r.hi, .int .u64 (r.v : Int)]) U (by kernel_rfl) (by have x0 := cell_of_row _ _ 0 _ _ _ hU.2; have x1 := cell_of_row _ _ 1 _ _ _ hU.2; have x2 := cell_of_row _ _ 2 _ _ _ hU.2; have x3 := cell_of_row _ _ 3 _ _ _ hU.2; have x4 := cell_of_row _ _ 4 _ _ _ hU.2; simp only [List.getElem?_toArray, List.getElem?_cons_zero, List.getElem?_cons_succ] at x0 x1 x2 x3 x4; go_simp) ⟨Below.refl _ _, Fx.fixed rfl rfl⟩
          refine ⟨⟨_, rfl, fun ν U hU hp => ?_⟩, ?_⟩
          · simp only [putsν, Act.put, List.setIfInBounds_toArray, List.set_cons_zero, List.set_cons_succ]
            have e2 := (hp 2 (by kernel_rfl) (by kernel_rfl)).val _ rfl
            have e3 := (hp 3 (by kernel_rfl) (by kernel_rfl)).val _ rfl
            simp only [e2, e3]
            refine Yld.call 62 #[.agg #[.int .i64 r.kind, .slice A r.l.length c, .int .i64 r.t, .int .i64 r.hi, .int .u64 (r.v : Int)]] (by kernel_rfl) (by go_simp) ?_
            have hcall := HFX2.out U hU.1
            refine hcall.mono ?_
            rintro e V ⟨rfl, hb⟩; exact ⟨_, rfl, hb, Fx.fixed rfl rfl⟩
          refine ⟨⟨_, rfl, fun ν U hU hp => ?_⟩, ?_⟩
          · simp only [putsν, Act.put, List.setIfInBounds_toArray, List.set_cons_zero, List.set_cons_succ]
            have e2 := (hp 2 (by kernel_rfl) (by kernel_rfl)).val _ rfl
            simp only [e2]
            exact Yld.value (.string s) U (by kernel_rfl) (by go_simp) ⟨Below.refl _ _, Fx.fixed rfl rfl⟩
          refine ⟨⟨_, rfl, fun ν U hU hp => ?_⟩, ?_⟩
          · simp only [putsν, Act.put, List.setIfInBounds_toArray, List.set_cons_zero, List.set_cons_succ]
            have e2 := (hp 2 (by kernel_rfl) (by kernel_rfl)).val _ rfl
            have e5 := (hp 5 (by kernel_rfl) (by kernel_rfl)).val _ rfl
            simp only [e2, e5]
            exact Yld.value (.string p) U (by kernel_rfl) (by go_simp) ⟨Below.refl _ _, Fx.fixed rfl rfl⟩
          refine ⟨⟨_, rfl, fun ν U hU hp => ?_⟩, ?_⟩
          · simp only [putsν, Act.put, List.setIfInBounds_toArray, List.set_cons_zero, List.set_cons_succ]
            have e2 := (hp 2 (by kernel_rfl) (by kernel_rfl)).val _ rfl
            have e4 := (hp 4 (by kernel_rfl) (by kernel_rfl)).val _ rfl
            have e6 := (hp 6 (by kernel_rfl) (by kernel_rfl)).val _ rfl
            simp only [e2, e4, e6]
            exact Yld.value (.bool true) U (by kernel_rfl) (by go_simp) ⟨Below.refl _ _, Fx.fixed rfl rfl⟩
          refine ⟨⟨_, rfl, fun ν U hU hp => ?_⟩, ?_⟩
          · simp only [putsν, Act.put, List.setIfInBounds_toArray, List.set_cons_zero, List.set_cons_succ]
            have e2 := (hp 2 (by kernel_rfl) (by kernel_rfl)).val _ rfl
            have e7 := (hp 7 (by kernel_rfl) (by kernel_rfl)).val _ rfl
            simp only [e2, e7]
            exact Yld.value (.bool true) U (by kernel_rfl) (by go_simp) ⟨Below.refl _ _, Fx.fixed rfl rfl⟩
          trivial
        intro ν w3 hS3 hf
        have e0 := (hf 0 (by kernel_rfl)).val _ rfl
        have e1 := (hf 1 (by kernel_rfl)).val _ rfl
        have e2 := (hf 2 (by kernel_rfl)).val _ rfl
        have e3 := (hf 3 (by kernel_rfl)).val _ rfl
        have e4 := (hf 4 (by kernel_rfl)).val _ rfl
        have e5 := (hf 5 (by kernel_rfl)).val _ rfl
        have e6 := (hf 6 (by kernel_rfl)).val _ rfl
        have e7 := (hf 7 (by kernel_rfl)).val _ rfl
        have e8 := (hf 8 (by kernel_rfl)).val _ rfl
        simp only [putsν, Act.put, List.setIfInBounds_toArray, List.set_cons_zero, List.set_cons_succ, e0, e1, e2, e3, e4, e5, e6, e7, e8]
        clear hf e0 e1 e2 e3 e4 e5 e6 e7 e8
        refine wpAnyT_done (by kernel_rfl) ?_ _
        refine only_mk ?_
        go_wp2_with fail
        go_ret3
        rw [HXN.out]
        obtain ⟨k1, k2, k3⟩ := HS2.out _ hS3.1
        exact TookEnd.none_ k1 k2 k3
end Go.Proofs.Ytaillfnmaiiapaa
