/-
  A loop over a function that no round leaves early, where the function hands to a round whatever it likes of what is left (a map, in whatever order): its rule, over any program.
-/
import Derived.Test.YtgpmomjdjakklaaRangeV
namespace Go.Proofs.Ytgpmomjdjakklaa
open Go.RowKit

/-- a function that hands on something of what its state leaves, from the state s on, till it is done: for every body that keeps Kp and never leaves -/
def HandsC {σ ι : Type} (P : Program) (g : Nat) (lb : Array Value) (encs : ι → Array Value) (hand : σ → ι → Prop) (fin : σ → Prop) (next : σ → ι → σ) (Kp : World → World → Prop) (s : σ) (w : World) : Prop :=
  ∀ (l : Nat) (J : σ → World → Prop) (W : World), Kp w W → w.heap.size ≤ W.heap.size → (∀ s A B row, J s A → A.grownBy B row → (∀ r, row = some r → W.heap.size ≤ r ∧ ∃ o : Obj, A.heap[r]? = some o ∧ o.isCells = false) → J s B) →
    (∀ s x W1, J s W1 → hand s x → YieldAt Fence.wide 1 P l (encs x) W1 fun e W2 => e = .returned (.bool true) ∧ J (next s x) W2 ∧ Kp W1 W2) →
    J s W → CallsIn Fence.wide 2 P g (#[.func (.yield l) #[] #[]] ++ lb) W fun e W2 => (∃ v, e = .returned v) ∧ ∃ s, fin s ∧ J s W2
variable {P : Program}
theorem rangeC {σ ι : Type} {g : Operand} {ps : Array Tmp} {assign body : Code} {Q : Exit → Act → World → Prop} {a : Act} {w : World} {gf : Nat} {lb : Array Value}
    (hg : a.eval g = .func (.func gf) #[] lb) (eg : ∀ args w, (callFunc gf args).run P w = .ok (.enter gf args) w)
    {encs : ι → Array Value} {hand : σ → ι → Prop} {fin : σ → Prop} {next : σ → ι → σ} {Kp : World → World → Prop} {s0 : σ} (hseq : HandsC P gf lb encs hand fin next Kp s0 w)
    (hKt : ∀ {A B C : World}, Kp A B → Kp B C → Kp A C) (hKa : ∀ (o1 o2 : Obj), o1.isCells = false → o2.isCells = false → Kp w ((w.alloc o1).alloc o2))
    (hKb : ∀ (W : World) (l : Nat) (o o2 : Obj), w.heap.size ≤ l → W.heap[l]? = some o → o.isCells = false → o.isWalk = false → Kp W (W.putObj l o2)) (hps : ∀ x, (encs x).size = ps.size)
    (I : σ → World → Prop) (hI : OwnFrom w.heap.size I) (h0 : I s0 w) (a1 : ι → Act)
    (hassign : ∀ (l : Nat) (x : ι) (W : World) (K : Act → World → Prop), K (a1 x) W →
      assign.wpIn (Fence.wide.inRound l) 1 P (Exit.then K (fun _ _ _ => False)) { tmps := (ps.zip (encs x)).foldl (fun t (p, v) => t.setIfInBounds p v) a.tmps, defers := [] } W)
    (hbody : ∀ (l : Nat) (s : σ) (x : ι) (W : World), I s W → hand s x → body.wpIn (Fence.wide.inRound l) 1 P (RoundLeft w.heap.size Kp (I (next s x)) (fun _ _ => False) W) (a1 x) W)
    (hdone : ∀ (D : Nat) (s : σ) (W : World), w.heap.size ≤ D → fin s → I s W → W.heap[D]? = some (.deferred (some [])) → Q .normal { a with defers := { target := .collected D, args := #[] } :: a.defers } W) :
    (Code.rangeFunc g ps assign body).wpIn Fence.wide 3 P Q a w := by
  refine wpIn_rangeFunc fun fn hfn => ?_
  -- the loop's record, in a state
  generalize hR : (fun (st : LoopState) (pe : Option Code) => Obj.loop { state := st, pending := pe, fn, tmps := a.tmps, params := ps, assign, body, defers := w.heap.size }) = R
  have eR : ∀ st pe, R st pe = Obj.loop { state := st, pending := pe, fn, tmps := a.tmps, params := ps, assign, body, defers := w.heap.size } := fun st pe => by rw [← hR]
  have nR : ∀ st pe, (R st pe).isCells = false := fun st pe => by rw [eR]; rfl
  have nW : ∀ st pe, (R st pe).isWalk = false := fun st pe => by rw [eR]; rfl
  generalize hL : w.heap.size + 1 = L
  -- what holds of the two blocks of the loop's own
  let Two : Obj → World → Prop := fun r W => W.heap[L]? = some r ∧ W.heap[w.heap.size]? = some (.deferred (some []))
  have two_kept : ∀ {r : Obj} {A B : World}, Two r A → A.grownBy B none → Two r B := fun h hg =>
    ⟨(hg.block L (Array.getElem?_eq_some_iff.1 h.1).1 (by simp)).trans h.1, (hg.block _ (Array.getElem?_eq_some_iff.1 h.2).1 (by simp)).trans h.2⟩
  have two_row : ∀ {r : Obj} {A B : World} {row : Option Nat}, Two r A → A.grownBy B row → (∀ j, row = some j → L < j) → Two r B := fun h hg hj =>
    ⟨(hg.block L (Array.getElem?_eq_some_iff.1 h.1).1 (fun e => by have := hj L e.symm; omega)).trans h.1, (hg.block _ (Array.getElem?_eq_some_iff.1 h.2).1 (fun e => by have := hj _ e.symm; omega)).trans h.2⟩
  have two_put : ∀ {r : Obj} (r2 : Obj) {A : World}, Two r A → Two r2 (A.putObj L r2) := fun r2 A h =>
    ⟨World.putObj_heap_same (Array.getElem?_eq_some_iff.1 h.1).1, (World.putObj_heap_other (by omega)).trans h.2⟩
  have two_from : ∀ {st : LoopState} {pe : Option Code} {A B : World}, Two (R st pe) A → KeepsFrom w.heap.size A B → Two (R st pe) B := fun h hk =>
    ⟨hk.same _ _ (by omega) h.1 (nR _ _), hk.same _ _ (Nat.le_refl _) h.2 rfl⟩
  have put_ok : ∀ {β : Type} {T : β → World → Prop} {s : β} {st : LoopState} {pe : Option Code} {A : World} (r2 : Obj), OwnFrom w.heap.size T → T s A → Two (R st pe) A → T s (A.putObj L r2) := fun {β T s st pe A} r2 hT hs h =>
    hT s A _ (some L) hs (grownBy_putObj' A L r2) (fun r e => by cases e; exact ⟨by omega, _, h.1, nR st pe⟩)
  have none_ok : ∀ {β : Type} {T : β → World → Prop} {s : β} {A B : World}, OwnFrom w.heap.size T → T s A → A.grownBy B none → T s B := fun hT hs hg => hT _ _ _ none hs hg (fun r e => by cases e)
  have start : Two (R .ready none) ((w.alloc (.deferred (some []))).alloc (R .ready none)) := by
    constructor
    · have := World.alloc_heap_new (w.alloc (.deferred (some []))) (R .ready none)
      rwa [World.size_alloc, hL] at this
    · exact (Below.heap_alloc _ _ _ (by simp)).trans (World.alloc_heap_new w _)
  have kstart : Kp w ((w.alloc (.deferred (some []))).alloc (R .ready none)) := hKa _ _ rfl (nR _ _)
  have istart : I s0 ((w.alloc (.deferred (some []))).alloc (R .ready none)) :=
    none_ok hI (none_ok hI h0 (World.grownBy_alloc w _ none)) (World.grownBy_alloc _ _ none)
  have zstart : w.heap.size ≤ ((w.alloc (.deferred (some []))).alloc (R .ready none)).heap.size := by simp; omega
  have zL : L < ((w.alloc (.deferred (some []))).alloc (R .ready none)).heap.size := (Array.getElem?_eq_some_iff.1 start.1).1
  refine ⟨L, [{ target := .collected w.heap.size, args := #[] }], (w.alloc (.deferred (some []))).alloc (R .ready none), { target := .fn (.func gf) lb, args := #[.func (.yield L) #[] #[]] }, _, gf, #[.func (.yield L) #[] #[]] ++ lb, _,
    by rw [eR, ← hL]; exact run_enterLoop_outer _ _ _ _ _, by simp only [resolve, hg]; simp [go_sem]; rfl, (fun _ _ => trivial), by simp [invoke, go_sem, eg]; rfl, (fun h => (by cases h)), ?_⟩
  generalize (w.alloc (.deferred (some []))).alloc (R .ready none) = W0 at *
  refine (hseq L (fun s W => I s W ∧ Two (R .ready none) W) W0 kstart zstart
    (fun s A B row h hg2 hr => ⟨hI _ _ _ row h.1 hg2 (fun r e => ⟨Nat.le_trans zstart (hr r e).1, (hr r e).2⟩), two_row h.2 hg2 (fun r e => Nat.lt_of_lt_of_le zL (hr r e).1)⟩) ?_ ⟨istart, start⟩).mono ?_
  · -- a round
    rintro s x W ⟨hi, h2⟩ hm
    have hy := run_yield (P := P) (args := encs x) (h2.1.trans (by rw [eR])) (hps x)
    refine ⟨fn, _, assign, body, hy, roundIn_of_wpIn hfn (hassign L x W _ ⟨_, run_beginRound (h2.1.trans (by rw [eR])) rfl, ?_⟩)⟩
    have e1 : (Obj.loop { ({ state := .ready, pending := none, fn, tmps := a.tmps, params := ps, assign, body, defers := w.heap.size } : Loop) with state := .busy }) = R .busy none := by rw [eR]
    rw [e1]
    have hb2 : Two (R .busy none) (W.putObj L (R .busy none)) := two_put _ h2
    have kb : Kp W (W.putObj L (R .busy none)) := hKb _ _ _ _ (by omega) h2.1 (nR _ _) (nW _ _)
    refine wpIn_mono (hbody L s x _ (put_ok _ hI hi h2) hm) ?_
    have fin2 : ∀ (jump : Option Code) (W3 : World), KeepsFrom w.heap.size (W.putObj L (R .busy none)) W3 →
        (Instr.endRound L jump).run P W3 = .ok (.bool jump.isNone) (W3.putObj L (R (if jump.isNone then .ready else .done) jump)) ∧ Two (R .busy none) W3 := fun jump W3 hk => by
      have h3 := two_from hb2 hk
      have := run_endRound (P := P) jump (h3.1.trans (by rw [eR]))
      exact ⟨by rw [this, eR], h3⟩
    rintro e a3 W3 hp
    cases e with
    | normal =>
      obtain ⟨hk, hkp, hi3⟩ := hp
      obtain ⟨hr, h3⟩ := fin2 none W3 hk
      exact ⟨_, _, hr, ⟨rfl, ⟨put_ok _ hI hi3 h3, two_put _ h3⟩, hKt (hKt kb hkp) (hKb _ _ _ _ (by omega) h3.1 (nR _ _) (nW _ _))⟩⟩
    | ret => exact hp.2.elim
    | exit id => exact hp.2.elim
    | goto t => exact hp.2.elim
    | panic ch => exact hp.elim
    | outgrown => exact hp.elim
  · rintro e W2 ⟨⟨v, rfl⟩, s, hm, hi, h2⟩
    have := run_endLoop (P := P) (h2.1.trans (by rw [eR])) (by simp)
    refine ⟨_, _, this, ?_⟩
    exact hdone _ s _ (Nat.le_refl _) hm (put_ok _ hI hi h2) ((World.putObj_heap_other (by omega)).trans h2.2)
end Go.Proofs.Ytgpmomjdjakklaa
