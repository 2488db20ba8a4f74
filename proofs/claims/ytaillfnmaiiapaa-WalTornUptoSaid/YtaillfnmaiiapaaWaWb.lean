import Derived.Test.YtaillfnmaiiapaaWaZf
/-
  A generation's form: what its methods come to.
-/
namespace Go.Proofs.Ytaillfnmaiiapaa
open Go.RowKit
def formT (g : Int) : TypeId := if g = 1 then 80 else if g = 2 then 81 else 83
def formP (g : Int) : FuncId := if g = 1 then 59 else if g = 2 then 78 else 100
def formK (g : Int) : FuncId := if g = 1 then 60 else if g = 2 then 79 else 101
theorem formV_T (g : Int) (nb : Nat) : formV g nb = .iface (formT g) (.agg #[.pointer (some ⟨nb, 0, none⟩)]) := by
  unfold formV formT
  split
  · rfl
  · split <;> rfl
theorem form_put (g : Int) (nb : Nat) (U : World) : (nilAhead 258 (formT g) (.agg #[.pointer (some ⟨nb, 0, none⟩)]) "alluvium/wal.put").run Try.prog U = .ok (some false) U ∧ (method 258 (formT g) (.agg #[.pointer (some ⟨nb, 0, none⟩)]) "alluvium/wal.put").run Try.prog U = .ok (formP g, .agg #[.pointer (some ⟨nb, 0, none⟩)]) U := by
  unfold formT formP
  by_cases h1 : g = 1
  · rw [if_pos h1, if_pos h1]; exact ⟨by kernel_rfl, by kernel_rfl⟩
  · rw [if_neg h1, if_neg h1]
    by_cases h2 : g = 2
    · rw [if_pos h2, if_pos h2]; exact ⟨by kernel_rfl, by kernel_rfl⟩
    · rw [if_neg h2, if_neg h2]; exact ⟨by kernel_rfl, by kernel_rfl⟩
theorem form_take (g : Int) (nb : Nat) (U : World) : (nilAhead 258 (formT g) (.agg #[.pointer (some ⟨nb, 0, none⟩)]) "alluvium/wal.take").run Try.prog U = .ok (some false) U ∧ (method 258 (formT g) (.agg #[.pointer (some ⟨nb, 0, none⟩)]) "alluvium/wal.take").run Try.prog U = .ok (formK g, .agg #[.pointer (some ⟨nb, 0, none⟩)]) U := by
  unfold formT formK
  by_cases h1 : g = 1
  · rw [if_pos h1, if_pos h1]; exact ⟨by kernel_rfl, by kernel_rfl⟩
  · rw [if_neg h1, if_neg h1]
    by_cases h2 : g = 2
    · rw [if_pos h2, if_pos h2]; exact ⟨by kernel_rfl, by kernel_rfl⟩
    · rw [if_neg h2, if_neg h2]; exact ⟨by kernel_rfl, by kernel_rfl⟩
theorem form_known (g : Int) (nb : Nat) (U : World) : (nilAhead 258 (formT g) (.agg #[.pointer (some ⟨nb, 0, none⟩)]) "alluvium/wal.known").run Try.prog U = .ok (some false) U ∧ (method 258 (formT g) (.agg #[.pointer (some ⟨nb, 0, none⟩)]) "alluvium/wal.known").run Try.prog U = .ok (58, .pointer (some ⟨nb, 0, none⟩)) U := by
  unfold formT
  by_cases h1 : g = 1
  · rw [if_pos h1]; exact ⟨by kernel_rfl, by kernel_rfl⟩
  · rw [if_neg h1]
    by_cases h2 : g = 2
    · rw [if_pos h2]; exact ⟨by kernel_rfl, by kernel_rfl⟩
    · rw [if_neg h2]; exact ⟨by kernel_rfl, by kernel_rfl⟩
theorem formP_enter (g : Int) (args : Array Value) (U : World) : (callFunc (formP g) args).run Try.prog U = .ok (.enter (formP g) args) U := by
  unfold formP
  by_cases h1 : g = 1
  · rw [if_pos h1]; kernel_rfl
  · rw [if_neg h1]
    by_cases h2 : g = 2
    · rw [if_pos h2]; kernel_rfl
    · rw [if_neg h2]; kernel_rfl
theorem formK_enter (g : Int) (args : Array Value) (U : World) : (callFunc (formK g) args).run Try.prog U = .ok (.enter (formK g) args) U := by
  unfold formK
  by_cases h1 : g = 1
  · rw [if_pos h1]; kernel_rfl
  · rw [if_neg h1]
    by_cases h2 : g = 2
    · rw [if_pos h2]; kernel_rfl
    · rw [if_neg h2]; kernel_rfl
/-- what put comes to: bytes, whether they may be, and the keys -/
def Wa.putF (g : Int) (K : List ByteArray) (f : Nat → Wa.Rec) (n : Nat) : ByteArray × Bool × List ByteArray :=
  if g = 1 then (Wa.fixes f n, true, K) else if g = 2 then ((Wa.frs f K n).1, true, (Wa.frs f K n).2) else Wa.put3 f K n
theorem Wa.putR_F {g : Int} {K : List ByteArray} {f : Nat → Wa.Rec} {n : Nat} (hg : 1 ≤ g ∧ g ≤ 3) (h : Wa.firstErr f g n = 0) : Wa.putR g K f n = if (Wa.putF g K f n).2.1 = true then ((Wa.putF g K f n).1, (Wa.putF g K f n).2.2, 0) else (ByteArray.empty, K, 7) := by
  unfold Wa.putR Wa.putF Wa.put3
  rw [if_neg (by omega), if_neg (by rw [h]; simp)]
  by_cases h1 : g = 1
  · rw [if_pos h1, if_pos h1]; simp
  · rw [if_neg h1, if_neg h1]
    by_cases h2 : g = 2
    · rw [if_pos h2, if_pos h2]; simp
    · rw [if_neg h2, if_neg h2]
      by_cases h3 : n = 0
      · rw [if_pos h3, if_pos h3]; simp
      · rw [if_neg h3, if_neg h3]
        by_cases h4 : 20000 < (Wa.batch f K n).size
        · rw [if_pos h4, if_pos h4]; simp
        · rw [if_neg h4, if_neg h4]; simp
/-- put, of any generation -/
theorem formPut_any {w0 w : World} {nb mb : Nat} {v : Value} {K : List ByteArray} {g : Int} (h : NamesIn w w0.heap.size nb mb v K) (h0 : Below w0.heap.size w0 w) (hK : K.length ≤ 400000) (A : Option Addr) (n c : Nat) (q : Nat → RAt) (hA : RecsIn w0 A n q) (hq : Wa.firstErr (recF q) g n = 0) (hn : n ≤ 100000) :
    Calls Try.prog (formP g) #[.agg #[.pointer (some ⟨nb, 0, none⟩)], .slice A n c] w (PutEnd w w0.heap.size nb mb (Wa.putF g K (recF q) n)) := by
  have hval := Wa.firstErr_ok.1 hq
  have hmay : ∀ i, i < n → Wa.may (recF q i) = true ∧ Wa.Words (recF q i) := fun i hi => ⟨(Wa.valid_may (hval i hi)).1, (hA.each i hi).words⟩
  unfold formP Wa.putF
  by_cases h1 : g = 1
  · rw [if_pos h1, if_pos h1]
    refine (put1_any nb A n c q w ⟨hA.row.later h0, fun i hi => (hA.each i hi).later h0, hA.len⟩ (fun i hi => (Wa.may_kind (hmay i hi).1).2) hn).mono ?_
    rintro e V ⟨rfl, hb⟩
    exact ⟨rfl, hb.mono h0.size, fun _ => ⟨v, h.later hb⟩⟩
  · rw [if_neg h1, if_neg h1]
    by_cases h2 : g = 2
    · rw [if_pos h2, if_pos h2]
      refine (put2_any h h0 hK A n c q hA (fun i hi => (hmay i hi).1) hn).mono ?_
      rintro e V ⟨rfl, hs⟩
      exact ⟨rfl, hs.bel, fun _ => hs.nam⟩
    · rw [if_neg h2, if_neg h2]
      exact put3_any h h0 hK A n c q hA hmay hn
/-- take, of any generation -/
theorem formTake_any {w : World} {base nb mb : Nat} {v : Value} {K : List ByteArray} (g : Int) (s : ByteArray) (hs : s.size ≤ 1000000) (h : NamesIn w base nb mb v K) (hK : K.length ≤ 800000) (hks : ∀ k ∈ K, k.size ≤ maxLen) :
    Calls Try.prog (formK g) #[.agg #[.pointer (some ⟨nb, 0, none⟩)], .string s] w (TookEnd w base nb mb (Wa.take g K s)) := by
  unfold formK Wa.take
  by_cases h1 : g = 1
  · rw [if_pos h1, if_pos h1]; exact take1_any nb s (by unfold maxLen; omega) h
  · rw [if_neg h1, if_neg h1]
    by_cases h2 : g = 2
    · rw [if_pos h2, if_pos h2]; exact take2_any s hs h hK hks
    · rw [if_neg h2, if_neg h2]; exact take3_any s hs h hK hks
end Go.Proofs.Ytaillfnmaiiapaa
/-
  Put: the walk.
-/
namespace Go.Proofs.Ytaillfnmaiiapaa
open Go.RowKit
/-- what Put holds on to -/
structure PutB (w : World) (pw rb sb : Nat) (g : Int) (A : Option Addr) (c : Nat) (A8 : Option Addr) (c8 : Nat) (K : List ByteArray) (U : World) : Prop where
  p : U.heap[pw]? = some (.cells #[.int .i64 g, .slice A K.length c] 32 (0, 0))
  r : U.heap[rb]? = some (.cells #[.int .i64 0, .slice none 0 0] 32 (0, 0))
  s : U.heap[sb]? = some (.cells #[.int .i64 g, .slice A8 K.length c8] 32 (0, 0))
  own : U.ownsRow w.heap.size 9 1 (.slice A8 K.length c8) K.length (rcells 1 (kx K) K.length)
  bel : Below w.heap.size w U
  lo : w.heap.size ≤ rb
theorem PutB.later {w : World} {pw rb sb : Nat} {g : Int} {A : Option Addr} {c : Nat} {A8 : Option Addr} {c8 : Nat} {K : List ByteArray} {U V : World} (h : PutB w pw rb sb g A c A8 c8 K U) (hb : Below U.heap.size U V) : PutB w pw rb sb g A c A8 c8 K V :=
  ⟨heap_keep h.p hb, heap_keep h.r hb, heap_keep h.s hb, row_far h.own hb, below_step h.bel hb, h.lo⟩
/-- what Put comes to -/
def PutDone (w : World) (g : Int) (R : ByteArray × List ByteArray × Int) (e : Ending) (V : World) : Prop :=
  ∃ kv, e = .returned (.tuple #[.string R.1, .agg #[.int .i64 g, kv], .int .i64 R.2.2]) ∧ V.ownsRow w.heap.size 9 1 kv R.2.1.length (rcells 1 (kx R.2.1) R.2.1.length) ∧ Below w.heap.size w V
theorem PutB.drewn {w : World} {pw rb sb : Nat} {g : Int} {A : Option Addr} {c : Nat} {A8 : Option Addr} {c8 : Nat} {K : List ByteArray} {U : World} (h : PutB w pw rb sb g A c A8 c8 K U) : PutB w pw rb sb g A c A8 c8 K U.drew := h.later (Below.refl _ _).drew
set_option maxRecDepth 100000 in
set_option maxHeartbeats 4000000 in
theorem wPut_any (g : Int) (K : List ByteArray) (hK : K.length ≤ 400000) (hks : ∀ k ∈ K, k.size ≤ maxLen) (A : Option Addr) (c : Nat) (hnone : A = none → K.length = 0 ∧ c = 0) (B : Option Addr) (n c2 : Nat) (q : Nat → RAt) (hn : n ≤ 100000) (w : World) (hA : Row 1 (kx K) w A K.length) (hB : RecsIn w B n q) :
    Calls Try.prog 14 #[.agg #[.int .i64 g, .slice A K.length c], .slice B n c2] w (PutDone w g (Wa.putR g K (recF q) n)) := by
  have HCL := Lib.hid (fun W (hW : Below w.heap.size w W) => cloneT_any A K.length c (by omega) hnone (kx K) (kx_one K) W (hA.later hW))
  have HA := Lib.hid hA; have HB := Lib.hid hB; have HKS := Lib.hid hks
  obtain ⟨R, hR⟩ : ∃ R, R = Wa.putR g K (recF q) n := ⟨_, rfl⟩
  rw [← hR]
  have HR := Lib.hid hR
  clear hA hB hks hR
  go_enter Try.func14, Try.ntmps14
  go_wp2_with fail
  obtain ⟨wa, hwa⟩ : ∃ wa, wa = (w.alloc (.cells #[.int .i64 g, .slice A K.length c] 32)).alloc (.cells #[.int .i64 0, .slice none 0 0] 32) := ⟨_, rfl⟩
  have hba : Below w.heap.size w wa := by rw [hwa]; exact ((Below.refl _ _).alloc (Nat.le_refl _) _).alloc (by simp) _
  have hxp : wa.heap[w.heap.size]? = some (.cells #[.int .i64 g, .slice A K.length c] 32 (0, 0)) := by rw [hwa]; exact heap_alloc2_old w _ _
  have hxr : wa.heap[w.heap.size + 1]? = some (.cells #[.int .i64 0, .slice none 0 0] 32 (0, 0)) := by rw [hwa]; exact heap_alloc2_new w _ _
  rw [← hwa]
  obtain ⟨rb, hrb⟩ : ∃ rb, rb = w.heap.size + 1 := ⟨_, rfl⟩
  obtain ⟨pw, hpw⟩ : ∃ pw, pw = w.heap.size := ⟨_, rfl⟩
  rw [← hrb] at hxr ⊢
  rw [← hpw] at hxp ⊢
  have HBA := Lib.hid hba; have HXP := Lib.hid hxp; have HXR := Lib.hid hxr
  have HLO : Hid (w.heap.size ≤ rb) := Lib.hid (by omega)
  have HPW := Lib.hid hpw
  clear hwa hba hxp hxr hrb hpw
  refine plain_robJ [(0, some 12), (1, some 13), (2, some 14), (3, some 15), (4, some 16), (5, some 17), (6, some 7)] [7] (fun U V => Below U.heap.size U V) (fun U => Below w.heap.size w U ∧ U.heap[pw]? = some (.cells #[.int .i64 g, .slice A K.length c] 32 (0, 0)) ∧ U.heap[rb]? = some (.cells #[.int .i64 0, .slice none 0 0] 32 (0, 0)) ∧ wa.heap.size ≤ U.heap.size) [(0, .pointer (some ⟨pw, 0, none⟩)), (1, .int .i64 g), (2, .pointer (some ⟨pw, 1, none⟩)), (3, .slice A K.length c)] [(4, (fun x W => ∃ A8 c8, x = .slice A8 K.length c8 ∧ W.ownsRow w.heap.size 9 1 x K.length (rcells 1 (kx K) K.length) : Value → World → Prop)), (5, (fun x W => ∃ A8 c8, x = .agg #[.int .i64 g, .slice A8 K.length c8] ∧ W.ownsRow w.heap.size 9 1 (.slice A8 K.length c8) K.length (rcells 1 (kx K) K.length) : Value → World → Prop)), (6, (fun x W => ∃ b, x = .pointer (some ⟨b, 0, none⟩) ∧ W.heap[b]? = some (.cells #[.int .i64 0, .slice none 0 0] 32 (0, 0)) ∧ wa.heap.size ≤ b : Value → World → Prop))] 1 (by kernel_rfl) (by kernel_rfl) (by kernel_rfl) (⟨HBA.out.drew, HXP.out, HXR.out, Nat.le_refl _⟩) (fun U V h hb => ⟨h.1.trans (hb.mono h.1.size), heap_keep h.2.1 hb, heap_keep h.2.2.1 hb, Nat.le_trans h.2.2.2 hb.size⟩) ?_ ?_ ?_
  · intro p hp
    simp only [List.mem_cons, List.not_mem_nil, or_false] at hp
    rcases hp with rfl | rfl | rfl
    · exact fun x U V h hb => by obtain ⟨A8, c8, e, ho⟩ := h; exact ⟨A8, c8, e, row_far ho hb⟩
    · exact fun x U V h hb => by obtain ⟨A8, c8, e, ho⟩ := h; exact ⟨A8, c8, e, row_far ho hb⟩
    · exact fun x U V h hb => by obtain ⟨b, e, hc, hl⟩ := h; exact ⟨b, e, heap_keep hc hb, hl⟩
  · refine ⟨⟨_, rfl, fun ν U hU hp => ?_⟩, ?_⟩
    · simp only [putsν, Act.put, List.setIfInBounds_toArray, List.set_cons_zero, List.set_cons_succ]
      exact Yld.value (.pointer (some ⟨pw, 0, none⟩)) U (by kernel_rfl) (by go_simp) ⟨Below.refl _ _, Fx.fixed rfl rfl⟩
    refine ⟨⟨_, rfl, fun ν U hU hp => ?_⟩, ?_⟩
    · simp only [putsν, Act.put, List.setIfInBounds_toArray, List.set_cons_zero, List.set_cons_succ]
      have e0 := (hp 0 (by kernel_rfl) (by kernel_rfl)).val _ rfl
      simp only [e0]
      exact Yld.value (.int .i64 g) U (by kernel_rfl) (by have q0 := cell_of_row _ _ 0 _ _ _ hU.2.1; simp only [List.getElem?_toArray, List.getElem?_cons_zero] at q0; go_simp) ⟨Below.refl _ _, Fx.fixed rfl rfl⟩
    refine ⟨⟨_, rfl, fun ν U hU hp => ?_⟩, ?_⟩
    · simp only [putsν, Act.put, List.setIfInBounds_toArray, List.set_cons_zero, List.set_cons_succ]
      exact Yld.value (.pointer (some ⟨pw, 1, none⟩)) U (by kernel_rfl) (by go_simp) ⟨Below.refl _ _, Fx.fixed rfl rfl⟩
    refine ⟨⟨_, rfl, fun ν U hU hp => ?_⟩, ?_⟩
    · simp only [putsν, Act.put, List.setIfInBounds_toArray, List.set_cons_zero, List.set_cons_succ]
      have e2 := (hp 2 (by kernel_rfl) (by kernel_rfl)).val _ rfl
      simp only [e2]
      exact Yld.value (.slice A K.length c) U (by kernel_rfl) (by have q0 := cell_of_row _ _ 1 _ _ _ hU.2.1; simp only [List.getElem?_toArray, List.getElem?_cons_zero, List.getElem?_cons_succ] at q0; go_simp) ⟨Below.refl _ _, Fx.fixed rfl rfl⟩
    refine ⟨⟨_, rfl, fun ν U hU hp => ?_⟩, ?_⟩
    · simp only [putsν, Act.put, List.setIfInBounds_toArray, List.set_cons_zero, List.set_cons_succ]
      have e3 := (hp 3 (by kernel_rfl) (by kernel_rfl)).val _ rfl
      simp only [e3]
      refine Yld.call 23 #[.slice A K.length c] (by kernel_rfl) (by go_simp) ?_
      refine (HCL.out U hU.1).mono ?_
      rintro e V ⟨x, rfl, ho, hb⟩
      obtain ⟨A8, c8, rfl, -⟩ := own_row ho
      exact ⟨_, rfl, hb, Fx.some_ rfl rfl ⟨A8, c8, rfl, own_from ho hU.1.size⟩⟩
    refine ⟨⟨_, rfl, fun ν U hU hp => ?_⟩, ?_⟩
    · simp only [putsν, Act.put, List.setIfInBounds_toArray, List.set_cons_zero, List.set_cons_succ]
      have e1 := (hp 1 (by kernel_rfl) (by kernel_rfl)).val _ rfl
      have c4 := (hp 4 (by kernel_rfl) (by kernel_rfl)).is _ rfl
      simp only [e1]
      obtain ⟨A8, c8, h4, ho⟩ := c4
      rw [h4] at ho
      simp only [h4]
      exact Yld.value (.agg #[.int .i64 g, .slice A8 K.length c8]) U (by kernel_rfl) (by go_simp) ⟨Below.refl _ _, Fx.some_ rfl rfl ⟨A8, c8, rfl, ho⟩⟩
    refine ⟨⟨_, rfl, fun ν U hU hp => ?_⟩, ?_⟩
    · simp only [putsν, Act.put, List.setIfInBounds_toArray, List.set_cons_zero, List.set_cons_succ]
      exact Yld.value (.pointer (some ⟨U.heap.size, 0, none⟩)) (U.alloc (.cells #[.int .i64 0, .slice none 0 0] 32)) (by kernel_rfl) (by go_simp) ⟨(Below.refl _ _).alloc (Nat.le_refl _) _, Fx.some_ rfl rfl ⟨_, rfl, heap_alloc_new U _, hU.2.2.2⟩⟩
    trivial
  intro ν w2 hS2 hf
  have e0 := (hf 0 (by kernel_rfl)).val _ rfl
  have e1 := (hf 1 (by kernel_rfl)).val _ rfl
  have e2 := (hf 2 (by kernel_rfl)).val _ rfl
  have e3 := (hf 3 (by kernel_rfl)).val _ rfl
  have c4 := (hf 4 (by kernel_rfl)).is _ rfl
  have c5 := (hf 5 (by kernel_rfl)).is _ rfl
  have c6 := (hf 6 (by kernel_rfl)).is _ rfl
  simp only [putsν, Act.put, List.setIfInBounds_toArray, List.set_cons_zero, List.set_cons_succ, e0, e1, e2, e3]
  clear hf e0 e1 e2 e3
  obtain ⟨A8, c8, h4, ho2⟩ := c5
  obtain ⟨sb, h6, hc2, hl2⟩ := c6
  simp only [h4, h6]
  clear c4
  have hplt := (Array.getElem?_eq_some_iff.1 HXP.out).1; have hrlt := (Array.getElem?_eq_some_iff.1 HXR.out).1
  have q0 := cell_of_row _ _ 0 _ _ _ hc2; have q1 := cell_of_row _ _ 1 _ _ _ hc2
  have f0 := frozen_of_row _ _ 0 _ _ hc2; have f1 := frozen_of_row _ _ 1 _ _ hc2
  simp only [List.getElem?_toArray, List.getElem?_cons_zero, List.getElem?_cons_succ] at q0 q1
  refine wpAnyT_one (i := 7) (by kernel_rfl) rfl (by kernel_rfl) ?_
  intro K' hK
  unfold Oper.wp
  go_simp
  have hs3 := heap_setCell_same _ sb 1 _ _ (.slice A8 K.length c8) (heap_setCell_same w2 sb 0 _ _ (.int .i64 g) hc2)
  have hg3 := grown_trans (grown_setCell w2 sb 0 (.int .i64 g)) (grown_setCell (w2.setCell ⟨sb, 0, none⟩ (.int .i64 g)) sb 1 (.slice A8 K.length c8))
  have HP3 : Hid (PutB w pw rb sb g A c A8 c8 K ((w2.setCell ⟨sb, 0, none⟩ (.int .i64 g)).setCell ⟨sb, 1, none⟩ (.slice A8 K.length c8))) := Lib.hid ⟨grown_keep hS2.2.1 hg3 (by omega), grown_keep hS2.2.2.1 hg3 (by omega), hs3, row_kept ho2 hg3 (fun r e => by obtain rfl : sb = r := Option.some.inj e; exact block_other ho2 hc2 (by decide)), hS2.1.grown hg3 hS2.1.size (fun r e => by obtain rfl : sb = r := Option.some.inj e; have := HBA.out.size; omega), HLO.out⟩
  obtain ⟨w3, hw3⟩ : ∃ w3, w3 = (w2.setCell ⟨sb, 0, none⟩ (.int .i64 g)).setCell ⟨sb, 1, none⟩ (.slice A8 K.length c8) := ⟨_, rfl⟩
  rw [← hw3] at HP3 ⊢
  refine hK _ _ (fun _ => trivial) ?_
  clear hK K'
  refine wpAnyT_done (by kernel_rfl) ?_ _
  refine only_mk ?_
  clear hw3 hs3 hg3 q0 q1 f0 f1 hc2 ho2 h4 h6 hS2 hplt hrlt hl2 HCL
  have hgen := fun W => wGen_any g W
  have hig : Wa.isG g = decide (1 ≤ g ∧ g ≤ 3) := rfl
  have p0 := cell_of_row _ _ 0 _ _ _ HP3.out.p
  simp only [List.getElem?_toArray, List.getElem?_cons_zero] at p0
  go_wp2_with fail
  clear p0
  refine (hgen w3).mono ?_; rintro e w3' ⟨rfl, rfl⟩
  by_cases hg : 1 ≤ g ∧ g ≤ 3
  · rw [hig, decide_eq_true hg]
    have HG := Lib.hid hg
    clear hgen hig hg
    have hp := HP3.out.p
    have p0 := cell_of_row _ _ 0 _ _ _ hp
    simp only [List.getElem?_toArray, List.getElem?_cons_zero] at p0
    clear hp
    go_wp2_with fail
    refine (allValid_any B n c2 q g w3' (HB.out.later HP3.out.bel)).mono ?_; rintro e w4 ⟨rfl, hb4⟩
    have HP4 := Lib.hid (HP3.out.later hb4)
    clear hb4 p0 HP3
    obtain ⟨er, her⟩ : ∃ er, er = Wa.firstErr (recF q) g n := ⟨_, rfl⟩
    rw [← her]
    have HER := Lib.hid her
    clear her
    by_cases he : er = 0
    · have d2 : (er != 0) = false := by simp [he]
      have HFE : Hid (Wa.firstErr (recF q) g n = 0) := Lib.hid (by rw [← HER.out]; exact he)
      clear he
      have p0 := cell_of_row _ _ 0 _ _ _ HP4.out.p; have p1 := cell_of_row _ _ 1 _ _ _ HP4.out.p
      simp only [List.getElem?_toArray, List.getElem?_cons_zero, List.getElem?_cons_succ] at p0 p1
      have HFO := Lib.hid (formOf_any g A c K (by omega) HKS.out hnone w4 (HA.out.later HP4.out.bel))
      go_wp2_with fail
      refine HFO.out.mono ?_; rintro e w5 ⟨nb, mb, vk, rfl, hn5, hb5⟩
      have HP5 := Lib.hid (HP4.out.later hb5)
      have HN5 := Lib.hid hn5; have HB5 := Lib.hid hb5
      have m1 := fun U => (form_put g nb U).1; have m2 := fun U => (form_put g nb U).2
      have m3 := formP_enter g
      rw [formV_T]
      have HFP := Lib.hid (formPut_any (g := g) hn5 hb5 hK B n c2 q (HB.out.later HP4.out.bel) HFE.out hn)
      have hF := Wa.putR_F (K := K) HG.out HFE.out
      obtain ⟨X, hX⟩ : ∃ X, X = Wa.putF g K (recF q) n := ⟨_, rfl⟩
      rw [← hX] at HFP hF
      have HF := Lib.hid hF
      clear hn5 hb5 hF hX p0 p1
      go_wp2_with fail
      refine HFP.out.mono ?_; rintro e w6 ⟨rfl, hb6, hn6⟩
      have hb46 := HB5.out.trans hb6
      have HP6 := Lib.hid (HP4.out.later hb46)
      have HN6 := Lib.hid hn6
      clear hb6 hn6 hb46 HP5 HN5 HB5 m1 m2 m3
      obtain ⟨xs, ok, K2⟩ := X
      simp only at HF HN6 ⊢
      cases ok
      · have HRN : Hid (R = (ByteArray.empty, K, 7)) := Lib.hid (by rw [HR.out, HF.out]; rfl)
        have hpq := HP6.out
        have p0 := cell_of_row _ _ 0 _ _ _ hpq.s; have p1 := cell_of_row _ _ 1 _ _ _ hpq.s
        have r0 := cell_of_row _ _ 0 _ _ _ hpq.r; have r1 := cell_of_row _ _ 1 _ _ _ hpq.r
        have f0 := frozen_of_row _ _ 0 _ _ hpq.r; have f1 := frozen_of_row _ _ 1 _ _ hpq.r
        simp only [List.getElem?_toArray, List.getElem?_cons_zero, List.getElem?_cons_succ] at p0 p1 r0 r1
        have hpp := HP6.out.drewn
        have hg9 := grown_trans (grown_setCell w6.drew rb 0 (.int .i64 g)) (grown_setCell (w6.drew.setCell ⟨rb, 0, none⟩ (.int .i64 g)) rb 1 (.slice A8 K.length c8))
        have HO9 := Lib.hid (row_kept hpp.own hg9 (fun r e => by obtain rfl : rb = r := Option.some.inj e; exact block_other hpp.own hpp.r (by decide)))
        have HB9 := Lib.hid (hpp.bel.grown hg9 hpp.bel.size (fun r e => by obtain rfl : rb = r := Option.some.inj e; exact hpp.lo))
        have HX9 := Lib.hid hpp.r
        clear hpp hg9 hpq
        go_wp2_with fail
        go_region
        go_wp2_with fail
        refine bodyPost_ret (writer_results rfl _ _ _ _ _ _ _ rfl rfl rfl (heap_setCell_same _ _ 1 _ _ _ (heap_setCell_same _ _ 0 _ _ _ HX9.out))) rfl ⟨.slice A8 K.length c8, ?_, ?_, HB9.out⟩
        · rw [HRN.out]; rfl
        · rw [HRN.out]; exact HO9.out
      · have HRN : Hid (R = (xs, K2, 0)) := Lib.hid (by rw [HR.out, HF.out]; rfl)
        obtain ⟨v6, hn6⟩ := HN6.out rfl
        obtain ⟨A6, c6, rfl, -⟩ := own_row hn6.keys
        have HN := Lib.hid hn6
        have m1 := fun U => (form_known g nb U).1; have m2 := fun U => (form_known g nb U).2
        clear hn6
        go_wp2_with fail
        refine plain_robJ [(0, some 45), (1, some 46), (2, some 47), (3, some 48), (4, some 49), (5, some 50), (6, some 4)] [7, 8] (fun U V => Below U.heap.size U V) (fun U => PutB w pw rb sb g A c A8 c8 K U ∧ NamesIn U w4.heap.size nb mb (.slice A6 K2.length c6) K2) [(0, .string xs), (1, .pointer (some ⟨pw, 0, none⟩)), (2, .int .i64 g), (3, .iface (formT g) (.agg #[.pointer (some ⟨nb, 0, none⟩)])), (4, .slice A6 K2.length c6), (5, .agg #[.int .i64 g, .slice A6 K2.length c6]), (6, .string xs)] [] 2 (by kernel_rfl) (by kernel_rfl) (by kernel_rfl) (⟨HP6.out.drewn, HN.out.later (Below.refl _ _).drew⟩) (fun U V h hb => ⟨h.1.later hb, h.2.later hb⟩) ?_ ?_ ?_
        · intro p hp; cases hp
        · refine ⟨⟨_, rfl, fun ν U hU hp => ?_⟩, ?_⟩
          · simp only [putsν, Act.put, List.setIfInBounds_toArray, List.set_cons_zero, List.set_cons_succ]
            exact Yld.value (.string xs) U (by kernel_rfl) (by go_simp) ⟨Below.refl _ _, Fx.fixed rfl rfl⟩
          refine ⟨⟨_, rfl, fun ν U hU hp => ?_⟩, ?_⟩
          · simp only [putsν, Act.put, List.setIfInBounds_toArray, List.set_cons_zero, List.set_cons_succ]
            exact Yld.value (.pointer (some ⟨pw, 0, none⟩)) U (by kernel_rfl) (by go_simp) ⟨Below.refl _ _, Fx.fixed rfl rfl⟩
          refine ⟨⟨_, rfl, fun ν U hU hp => ?_⟩, ?_⟩
          · simp only [putsν, Act.put, List.setIfInBounds_toArray, List.set_cons_zero, List.set_cons_succ]
            have e1 := (hp 1 (by kernel_rfl) (by kernel_rfl)).val _ rfl
            simp only [e1]
            exact Yld.value (.int .i64 g) U (by kernel_rfl) (by have q0 := cell_of_row _ _ 0 _ _ _ hU.1.p; simp only [List.getElem?_toArray, List.getElem?_cons_zero] at q0; go_simp) ⟨Below.refl _ _, Fx.fixed rfl rfl⟩
          refine ⟨⟨_, rfl, fun ν U hU hp => ?_⟩, ?_⟩
          · simp only [putsν, Act.put, List.setIfInBounds_toArray, List.set_cons_zero, List.set_cons_succ]
            exact Yld.value (.iface (formT g) (.agg #[.pointer (some ⟨nb, 0, none⟩)])) U (by kernel_rfl) (by go_simp) ⟨Below.refl _ _, Fx.fixed rfl rfl⟩
          refine ⟨⟨_, rfl, fun ν U hU hp => ?_⟩, ?_⟩
          · simp only [putsν, Act.put, List.setIfInBounds_toArray, List.set_cons_zero, List.set_cons_succ]
            have e3 := (hp 3 (by kernel_rfl) (by kernel_rfl)).val _ rfl
            simp only [e3]
            refine Yld.call 58 #[.pointer (some ⟨nb, 0, none⟩)] (by kernel_rfl) (by go_simp) ?_
            have hcall := known_any hU.2
            refine hcall.mono ?_
            rintro e V ⟨rfl, rfl⟩; exact ⟨_, rfl, Below.refl _ _, Fx.fixed rfl rfl⟩
          refine ⟨⟨_, rfl, fun ν U hU hp => ?_⟩, ?_⟩
          · simp only [putsν, Act.put, List.setIfInBounds_toArray, List.set_cons_zero, List.set_cons_succ]
            have e2 := (hp 2 (by kernel_rfl) (by kernel_rfl)).val _ rfl
            have e4 := (hp 4 (by kernel_rfl) (by kernel_rfl)).val _ rfl
            simp only [e2, e4]
            exact Yld.value (.agg #[.int .i64 g, .slice A6 K2.length c6]) U (by kernel_rfl) (by go_simp) ⟨Below.refl _ _, Fx.fixed rfl rfl⟩
          refine ⟨⟨_, rfl, fun ν U hU hp => ?_⟩, ?_⟩
          · simp only [putsν, Act.put, List.setIfInBounds_toArray, List.set_cons_zero, List.set_cons_succ]
            have e0 := (hp 0 (by kernel_rfl) (by kernel_rfl)).val _ rfl
            simp only [e0]
            exact Yld.value (.string xs) U (by kernel_rfl) (by go_simp) ⟨Below.refl _ _, Fx.fixed rfl rfl⟩
          trivial
        intro ν w7 hS7 hf
        have e0 := (hf 0 (by kernel_rfl)).val _ rfl
        have e1 := (hf 1 (by kernel_rfl)).val _ rfl
        have e2 := (hf 2 (by kernel_rfl)).val _ rfl
        have e3 := (hf 3 (by kernel_rfl)).val _ rfl
        have e4 := (hf 4 (by kernel_rfl)).val _ rfl
        have e5 := (hf 5 (by kernel_rfl)).val _ rfl
        have e6 := (hf 6 (by kernel_rfl)).val _ rfl
        simp only [putsν, Act.put, List.setIfInBounds_toArray, List.set_cons_zero, List.set_cons_succ, e0, e1, e2, e3, e4, e5, e6]
        clear hf e0 e1 e2 e3 e4 e5 e6
        obtain ⟨hp7, hn7⟩ := hS7
        have r0 := cell_of_row _ _ 0 _ _ _ hp7.r; have r1 := cell_of_row _ _ 1 _ _ _ hp7.r
        have f0 := frozen_of_row _ _ 0 _ _ hp7.r; have f1 := frozen_of_row _ _ 1 _ _ hp7.r
        simp only [List.getElem?_toArray, List.getElem?_cons_zero, List.getElem?_cons_succ] at r0 r1
        have hg9 := grown_trans (grown_setCell w7 rb 0 (.int .i64 g)) (grown_setCell (w7.setCell ⟨rb, 0, none⟩ (.int .i64 g)) rb 1 (.slice A6 K2.length c6))
        have HO9 := Lib.hid (row_kept (own_from hn7.keys HP4.out.bel.size) hg9 (fun r e => by obtain rfl : rb = r := Option.some.inj e; exact block_other hn7.keys hp7.r (by decide)))
        have HB9 := Lib.hid (hp7.bel.grown hg9 hp7.bel.size (fun r e => by obtain rfl : rb = r := Option.some.inj e; exact hp7.lo))
        have HX9 := Lib.hid (heap_setCell_same _ rb 1 _ _ (.slice A6 K2.length c6) (heap_setCell_same w7 rb 0 _ _ (.int .i64 g) hp7.r))
        clear hg9
        refine wpAnyT_one (i := 7) (by kernel_rfl) rfl (by kernel_rfl) ?_
        intro K' hK
        unfold Oper.wp
        go_simp
        obtain ⟨w8, hw8⟩ : ∃ w8, w8 = (w7.setCell ⟨rb, 0, none⟩ (.int .i64 g)).setCell ⟨rb, 1, none⟩ (.slice A6 K2.length c6) := ⟨_, rfl⟩
        rw [← hw8] at HO9 HB9 HX9 ⊢
        clear hw8 hp7 hn7 r0 r1 f0 f1
        refine hK _ _ (fun _ => trivial) ?_
        clear hK K'
        refine wpAnyT_pick (S := (fun _ => True)) (by kernel_rfl) Only.panic Only.keepsIn (w := w8) trivial [8] 0 _ _ (by kernel_rfl) ?_
        refine PickT.value (d := some 6) (.int .i64 0) rfl rfl (by kernel_rfl) (fun U hU => (by go_simp)) ?_
        simp only [PickT, Act.put, List.setIfInBounds_toArray, List.set_cons_zero, List.set_cons_succ]
        refine wpAnyT_done (by kernel_rfl) ?_ _
        refine only_mk ?_
        go_wp2_with fail
        refine bodyPost_ret (writer_results rfl _ _ _ _ _ _ _ rfl rfl rfl HX9.out) rfl ⟨.slice A6 K2.length c6, ?_, ?_, HB9.out⟩
        · rw [HRN.out]; rfl
        · rw [HRN.out]; exact HO9.out
    · have d2 : (er != 0) = true := by simpa using he
      have HRN : Hid (R = (ByteArray.empty, K, er)) := Lib.hid (by rw [HR.out]; unfold Wa.putR; rw [if_neg (by have := HG.out; omega), if_pos (by rw [← HER.out]; exact he), HER.out])
      clear he
      have hpq := HP4.out
      have p0 := cell_of_row _ _ 0 _ _ _ hpq.s; have p1 := cell_of_row _ _ 1 _ _ _ hpq.s
      have r0 := cell_of_row _ _ 0 _ _ _ hpq.r; have r1 := cell_of_row _ _ 1 _ _ _ hpq.r
      have f0 := frozen_of_row _ _ 0 _ _ hpq.r; have f1 := frozen_of_row _ _ 1 _ _ hpq.r
      simp only [List.getElem?_toArray, List.getElem?_cons_zero, List.getElem?_cons_succ] at p0 p1 r0 r1
      have hpp := HP4.out.drewn
      have hg9 := grown_trans (grown_setCell w4.drew rb 0 (.int .i64 g)) (grown_setCell (w4.drew.setCell ⟨rb, 0, none⟩ (.int .i64 g)) rb 1 (.slice A8 K.length c8))
      have HO9 := Lib.hid (row_kept hpp.own hg9 (fun r e => by obtain rfl : rb = r := Option.some.inj e; exact block_other hpp.own hpp.r (by decide)))
      have HB9 := Lib.hid (hpp.bel.grown hg9 hpp.bel.size (fun r e => by obtain rfl : rb = r := Option.some.inj e; exact hpp.lo))
      have HX9 := Lib.hid hpp.r
      clear hpp hg9 hpq
      go_wp2_with fail
      go_region
      go_wp2_with fail
      refine bodyPost_ret (writer_results rfl _ _ _ _ _ _ _ rfl rfl rfl (heap_setCell_same _ _ 1 _ _ _ (heap_setCell_same _ _ 0 _ _ _ HX9.out))) rfl ⟨.slice A8 K.length c8, ?_, ?_, HB9.out⟩
      · rw [HRN.out]; rfl
      · rw [HRN.out]; exact HO9.out
  · rw [hig, decide_eq_false hg]
    have HRN : Hid (R = (ByteArray.empty, K, 1)) := Lib.hid (by rw [HR.out]; unfold Wa.putR; rw [if_pos (by omega)])
    clear hgen hig hg
    have hpq := HP3.out
    have p0 := cell_of_row _ _ 0 _ _ _ hpq.s; have p1 := cell_of_row _ _ 1 _ _ _ hpq.s
    have r0 := cell_of_row _ _ 0 _ _ _ hpq.r; have r1 := cell_of_row _ _ 1 _ _ _ hpq.r
    have f0 := frozen_of_row _ _ 0 _ _ hpq.r; have f1 := frozen_of_row _ _ 1 _ _ hpq.r
    simp only [List.getElem?_toArray, List.getElem?_cons_zero, List.getElem?_cons_succ] at p0 p1 r0 r1
    have hpp := HP3.out.drewn
    have hg9 := grown_trans (grown_setCell w3'.drew rb 0 (.int .i64 g)) (grown_setCell (w3'.drew.setCell ⟨rb, 0, none⟩ (.int .i64 g)) rb 1 (.slice A8 K.length c8))
    have HO9 := Lib.hid (row_kept hpp.own hg9 (fun r e => by obtain rfl : rb = r := Option.some.inj e; exact block_other hpp.own hpp.r (by decide)))
    have HB9 := Lib.hid (hpp.bel.grown hg9 hpp.bel.size (fun r e => by obtain rfl : rb = r := Option.some.inj e; exact hpp.lo))
    have HX9 := Lib.hid hpp.r
    clear hpp hg9 hpq
    go_wp2_with fail
    go_region
    go_wp2_with fail
    refine bodyPost_ret (writer_results rfl _ _ _ _ _ _ _ rfl rfl rfl (heap_setCell_same _ _ 1 _ _ _ (heap_setCell_same _ _ 0 _ _ _ HX9.out))) rfl ⟨.slice A8 K.length c8, ?_, ?_, HB9.out⟩
    · rw [HRN.out]; rfl
    · rw [HRN.out]; exact HO9.out
end Go.Proofs.Ytaillfnmaiiapaa
