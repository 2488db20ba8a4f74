/-
  A loop over a function, where what the function hands to a round is told by how far it has come: its rule, over any program.
-/
import Derived.RangeFuncNested
import Derived.RangeFuncCalls
import Derived.RangeFuncLeaves
namespace Go.Proofs.Ytaillfnmaiiapaa
open Go.RowKit

/-- how the body of a round may be left -/
def RoundLeft (B : Nat) (Kp : World → World → Prop) (I : World → Prop) (X : Code → World → Prop) (W : World) : Exit → Act → World → Prop
  | .normal, _, W2 => KeepsFrom B W W2 ∧ Kp W W2 ∧ I W2
  | .ret, _, W2 => KeepsFrom B W W2 ∧ X .ret W2
  | .exit id, _, W2 => KeepsFrom B W W2 ∧ X (.exit id) W2
  | .goto t, _, W2 => KeepsFrom B W W2 ∧ X (.goto t) W2
  | .panic _, _, _ => False
  | .outgrown, _, _ => False

/-- a function that hands on what its state tells, from the state s on, while there is more: for every body that keeps Kp -/
def Iterates {σ : Type} (P : Program) (g : Nat) (lb : Array Value) (encs : σ → Array Value) (more : σ → Bool) (next : σ → σ) (Kp : World → World → Prop) (s : σ) (w : World) : Prop :=
  ∀ (l : Nat) (J X : σ → World → Prop) (W : World), Kp w W → w.heap.size ≤ W.heap.size → (∀ s A B, J s A → A.grownBy B none → J s B) →
    (∀ s W1, J s W1 → more s = true → YieldAt Fence.wide 1 P l (encs s) W1 fun e W2 => (e = .returned (.bool true) ∧ J (next s) W2 ∧ Kp W1 W2) ∨ (e = .returned (.bool false) ∧ X s W2)) →
    J s W → CallsIn Fence.wide 2 P g (#[.func (.yield l) #[] #[]] ++ lb) W fun e W2 => (∃ v, e = .returned v) ∧ ((∃ s, more s = false ∧ J s W2) ∨ ∃ s, X s W2)

variable {P : Program}
theorem put_grown {A : World} {l : Nat} {o : Obj} (o2 : Obj) (_h : A.heap[l]? = some o) : A.grownBy (A.putObj l o2) (some l) := grownBy_putObj' A l o2

theorem rangeV {σ : Type} {g : Operand} {ps : Array Tmp} {assign body : Code} {Q : Exit → Act → World → Prop} {a : Act} {w : World} {gf : Nat} {lb : Array Value}
    (hg : a.eval g = .func (.func gf) #[] lb) (eg : ∀ args w, (callFunc gf args).run P w = .ok (.enter gf args) w)
    {encs : σ → Array Value} {more : σ → Bool} {next : σ → σ} {Kp : World → World → Prop} {s0 : σ} (hseq : Iterates P gf lb encs more next Kp s0 w)
    (hKt : ∀ {A B C : World}, Kp A B → Kp B C → Kp A C) (hKa : ∀ (o1 o2 : Obj), o1.isCells = false → o2.isCells = false → Kp w ((w.alloc o1).alloc o2))
    (hKb : ∀ (W : World) (l : Nat) (o o2 : Obj), w.heap.size ≤ l → W.heap[l]? = some o → o.isCells = false → Kp W (W.putObj l o2)) (hps : ∀ s, (encs s).size = ps.size)
    (I : σ → World → Prop) (X : Code → σ → World → Prop) (hI : OwnFrom w.heap.size I) (hX : ∀ c, OwnFrom w.heap.size (X c)) (h0 : I s0 w) (a1 : σ → Act)
    (hassign : ∀ (l : Nat) (s : σ) (W : World) (K : Act → World → Prop), K (a1 s) W →
      assign.wpIn (Fence.wide.inRound l) 1 P (Exit.then K (fun _ _ _ => False)) { tmps := (ps.zip (encs s)).foldl (fun t (p, v) => t.setIfInBounds p v) a.tmps, defers := [] } W)
    (hbody : ∀ (l : Nat) (s : σ) (W : World), I s W → more s = true → body.wpIn (Fence.wide.inRound l) 1 P (RoundLeft w.heap.size Kp (I (next s)) (fun c => X c s) W) (a1 s) W)
    (hdone : ∀ (D : Nat) (s : σ) (W : World), w.heap.size ≤ D → more s = false → I s W → W.heap[D]? = some (.deferred (some [])) → Q .normal { a with defers := { target := .collected D, args := #[] } :: a.defers } W)
    (hstop : ∀ (D : Nat) (c : Code) (s : σ) (W : World), w.heap.size ≤ D → X c s W → W.heap[D]? = some (.deferred (some [])) → c.wpIn Fence.wide 3 P Q { a with defers := { target := .collected D, args := #[] } :: a.defers } W) :
    (Code.rangeFunc g ps assign body).wpIn Fence.wide 3 P Q a w := by
  refine wpIn_rangeFunc fun fn hfn => ?_
  -- the loop's record, in a state
  generalize hR : (fun (st : LoopState) (pe : Option Code) => Obj.loop { state := st, pending := pe, fn, tmps := a.tmps, params := ps, assign, body, defers := w.heap.size }) = R
  have eR : ∀ st pe, R st pe = Obj.loop { state := st, pending := pe, fn, tmps := a.tmps, params := ps, assign, body, defers := w.heap.size } := fun st pe => by rw [← hR]
  have nR : ∀ st pe, (R st pe).isCells = false := fun st pe => by rw [eR]; rfl
  generalize hL : w.heap.size + 1 = L
  -- what holds of the two blocks of the loop's own
  let Two : Obj → World → Prop := fun r W => W.heap[L]? = some r ∧ W.heap[w.heap.size]? = some (.deferred (some []))
  have two_kept : ∀ {r : Obj} {A B : World}, Two r A → A.grownBy B none → Two r B := fun h hg =>
    ⟨(hg.block L (Array.getElem?_eq_some_iff.1 h.1).1 (by simp)).trans h.1, (hg.block _ (Array.getElem?_eq_some_iff.1 h.2).1 (by simp)).trans h.2⟩
  have two_put : ∀ {r : Obj} (r2 : Obj) {A : World}, Two r A → Two r2 (A.putObj L r2) := fun r2 A h =>
    ⟨World.putObj_heap_same (Array.getElem?_eq_some_iff.1 h.1).1, (World.putObj_heap_other (by omega)).trans h.2⟩
  have two_from : ∀ {st : LoopState} {pe : Option Code} {A B : World}, Two (R st pe) A → KeepsFrom w.heap.size A B → Two (R st pe) B := fun h hk =>
    ⟨hk.same _ _ (by omega) h.1 (nR _ _), hk.same _ _ (Nat.le_refl _) h.2 rfl⟩
  have put_ok : ∀ {β : Type} {T : β → World → Prop} {s : β} {st : LoopState} {pe : Option Code} {A : World} (r2 : Obj), OwnFrom w.heap.size T → T s A → Two (R st pe) A → T s (A.putObj L r2) := fun {β T s st pe A} r2 hT hs h =>
    hT s A _ (some L) hs (grownBy_putObj' A L r2) (fun r e => by cases e; exact ⟨by omega, _, h.1, nR st pe⟩)
  have none_ok : ∀ {β : Type} {T : β → World → Prop} {s : β} {A B : World}, OwnFrom w.heap.size T → T s A → A.grownBy B none → T s B := fun hT hs hg => hT _ _ _ none hs hg (fun r e => by cases e)
  have start : Two (R .ready none) ((w.alloc (.deferred (some []))).alloc (R .ready none)) := by
    constructor
    · have := World.alloc_heap_new (w.alloc (.deferred (some []))) (R .ready none)
      rwa [World.size_alloc, hL] at this
    · exact (Below.heap_alloc _ _ _ (by simp)).trans (World.alloc_heap_new w _)
  have kstart : Kp w ((w.alloc (.deferred (some []))).alloc (R .ready none)) := hKa _ _ rfl (nR _ _)
  have istart : I s0 ((w.alloc (.deferred (some []))).alloc (R .ready none)) :=
    none_ok hI (none_ok hI h0 (World.grownBy_alloc w _ none)) (World.grownBy_alloc _ _ none)
  have zstart : w.heap.size ≤ ((w.alloc (.deferred (some []))).alloc (R .ready none)).heap.size := by simp; omega
  refine ⟨L, [{ target := .collected w.heap.size, args := #[] }], (w.alloc (.deferred (some []))).alloc (R .ready none), { target := .fn (.func gf) lb, args := #[.func (.yield L) #[] #[]] }, _, gf, #[.func (.yield L) #[] #[]] ++ lb, _,
    by rw [eR, ← hL]; exact run_enterLoop_outer _ _ _ _ _, by simp only [resolve, hg]; simp [go_sem]; rfl, (fun _ _ => trivial), by simp [invoke, go_sem, eg]; rfl, (fun h => (by cases h)), ?_⟩
  generalize (w.alloc (.deferred (some []))).alloc (R .ready none) = W0 at *
  refine (hseq L (fun s W => I s W ∧ Two (R .ready none) W) (fun s W => ∃ c, X c s W ∧ Two (R .done (some c)) W) W0 kstart zstart
    (fun s A B h hg2 => ⟨none_ok hI h.1 hg2, two_kept h.2 hg2⟩) ?_ ⟨istart, start⟩).mono ?_
  · -- a round
    rintro s W ⟨hi, h2⟩ hm
    have hy := run_yield (P := P) (args := encs s) (h2.1.trans (by rw [eR])) (hps s)
    refine ⟨fn, _, assign, body, hy, roundIn_of_wpIn hfn (hassign L s W _ ⟨_, run_beginRound (h2.1.trans (by rw [eR])) rfl, ?_⟩)⟩
    have e1 : (Obj.loop { ({ state := .ready, pending := none, fn, tmps := a.tmps, params := ps, assign, body, defers := w.heap.size } : Loop) with state := .busy }) = R .busy none := by rw [eR]
    rw [e1]
    have hb2 : Two (R .busy none) (W.putObj L (R .busy none)) := two_put _ h2
    have kb : Kp W (W.putObj L (R .busy none)) := hKb _ _ _ _ (by omega) h2.1 (nR _ _)
    refine wpIn_mono (hbody L s _ (put_ok _ hI hi h2) hm) ?_
    have fin : ∀ (jump : Option Code) (W3 : World), KeepsFrom w.heap.size (W.putObj L (R .busy none)) W3 →
        (Instr.endRound L jump).run P W3 = .ok (.bool jump.isNone) (W3.putObj L (R (if jump.isNone then .ready else .done) jump)) ∧ Two (R .busy none) W3 := fun jump W3 hk => by
      have h3 := two_from hb2 hk
      have := run_endRound (P := P) jump (h3.1.trans (by rw [eR]))
      exact ⟨by rw [this, eR], h3⟩
    have leave : ∀ (c : Code) (W3 : World), KeepsFrom w.heap.size (W.putObj L (R .busy none)) W3 → X c s W3 →
        ∃ v W4, (Instr.endRound L (some c)).run P W3 = .ok v W4 ∧ ((Ending.returned v = .returned (.bool true) ∧ (I (next s) W4 ∧ Two (R .ready none) W4) ∧ Kp W W4) ∨ (Ending.returned v = .returned (.bool false) ∧ ∃ c, X c s W4 ∧ Two (R .done (some c)) W4)) := fun c W3 hk hx => by
      obtain ⟨hr, h3⟩ := fin (some c) W3 hk
      exact ⟨_, _, hr, .inr ⟨rfl, c, put_ok _ (hX c) hx h3, two_put _ h3⟩⟩
    rintro e a3 W3 hp
    cases e with
    | normal =>
      obtain ⟨hk, hkp, hi3⟩ := hp
      obtain ⟨hr, h3⟩ := fin none W3 hk
      exact ⟨_, _, hr, .inl ⟨rfl, ⟨put_ok _ hI hi3 h3, two_put _ h3⟩, hKt (hKt kb hkp) (hKb _ _ _ _ (by omega) h3.1 (nR _ _))⟩⟩
    | ret => exact leave _ _ hp.1 hp.2
    | exit id => exact leave _ _ hp.1 hp.2
    | goto t => exact leave _ _ hp.1 hp.2
    | panic ch => exact hp.elim
    | outgrown => exact hp.elim
  · rintro e W2 ⟨⟨v, rfl⟩, ⟨s, hm, hi, h2⟩ | ⟨s, c, hx, h2⟩⟩
    · have := run_endLoop (P := P) (h2.1.trans (by rw [eR])) (by simp)
      refine ⟨_, _, this, ?_⟩
      exact hdone _ s _ (Nat.le_refl _) hm (put_ok _ hI hi h2) ((World.putObj_heap_other (by omega)).trans h2.2)
    · have := run_endLoop (P := P) (h2.1.trans (by rw [eR])) (by simp)
      refine ⟨_, _, this, ?_⟩
      exact hstop _ c s _ (Nat.le_refl _) (put_ok _ (hX c) hx h2) ((World.putObj_heap_other (by omega)).trans h2.2)
end Go.Proofs.Ytaillfnmaiiapaa
