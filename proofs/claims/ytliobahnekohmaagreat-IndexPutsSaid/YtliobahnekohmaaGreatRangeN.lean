import Derived.Test.YtliobahnekohmaaGreatRegT
import Derived.OrdersIn
import Derived.OrdersHeld
import Derived.RangeFuncCalls
import Derived.RangeFuncNested
import Derived.RangeFuncLeaves
/-
  A region that draws its order, in a function that hands on to a loop: an operation that yields its value in every world that meets a condition may be taken first. Over any program.
-/
namespace Go.Proofs.YtliobahnekohmaaGreat
open Go.RowKit
variable {P : Program} {ops : Array Oper} {Q : Exit → Act → World → Prop} {md : Region.Mode} {S : World → Prop} {n : Nat}
theorem still_op {i : Nat} {o : Oper} {v : Value} {a : Act} (hi : ops[i]? = some o) (h : YieldsIf P ops S o v a) {K : Act → World → Prop} {w : World} (hS : S w) (hK : K (a.put o.dst v) w) :
 wpOpIn Fence.wide n P ops Q i K a w := by
 unfold wpOpIn
 simp only [hi]
 rcases h with ⟨hw, hr⟩ | ⟨hw, rfl⟩
 · simp only [hw, if_true]
   refine ⟨fun _ _ => trivial, ?_⟩
   rw [show Fence.wide.round = none from rfl, Oper.semAt_none, hr w hS]
   exact hK
 · simp only [hw, Bool.false_eq_true, if_false]
   exact ⟨fun _ _ => trivial, hK⟩
theorem other_op {j : Nat} {oi oj : Oper} {v : Value} (hj : ops[j]? = some oj) (hap : oi.apart ops oj = true) (hsi : ∀ cs b, oi.op ≠ .select cs b) (hsj : ∀ cs b, oj.op ≠ .select cs b)
 (hQ : ∀ c a w, Q (.panic c) (a.put oi.dst v) w → Q (.panic c) a w) {K : Act → World → Prop} {a : Act} {w : World} (hy : YieldsIf P ops S oi v a) (h : wpOpIn Fence.wide n P ops Q j K (a.put oi.dst v) w) :
 wpOpIn Fence.wide n P ops Q j (fun a2 w2 => YieldsIf P ops S oi v a2 ∧ K (a2.put oi.dst v) w2) a w := by
 obtain ⟨h1, h2, h3⟩ := Oper.apart_spec hap
 have stays : ∀ (b : Act), YieldsIf P ops S oi v b → ∀ u, YieldsIf P ops S oi v (b.put oj.dst u) := fun b hb u => hb.of_same (execOp_put oi hsi b oj.dst u h3) (wanted_put oi b oj.dst u h3)
 have swap : ∀ (b : Act) (u : Value) (w2 : World), K ((b.put oi.dst v).put oj.dst u) w2 → K ((b.put oj.dst u).put oi.dst v) w2 := fun b u w2 hk => by rw [← Act.put_comm b v u h2]; exact hk
 unfold wpOpIn at h ⊢
 simp only [hj] at h ⊢
 rw [wanted_put oj a oi.dst v h1] at h
 by_cases hw : Region.wanted oj (yielded ops a.tmps) = true
 · simp only [hw, if_true] at h ⊢
   refine ⟨fun _ _ => trivial, ?_⟩
   have h := h.2
   rw [show Fence.wide.round = none from rfl, Oper.semAt_none, execOp_put oj hsj a oi.dst v h1] at h
   rw [show Fence.wide.round = none from rfl, Oper.semAt_none]
   cases hr : (execOp a.eval oj).run P w with
   | ok x w2 =>
    rw [hr] at h
    cases x <;> simp only [Oper.uponIn] at h ⊢
    case value u => exact ⟨stays a hy u, swap a u w2 h⟩
    case skip => exact ⟨stays a hy _, swap a _ w2 h⟩
    case defer d =>
     refine ⟨stays { a with defers := d :: a.defers } (hy.of_same rfl rfl) _, ?_⟩
     rw [← Act.put_comm _ v undef h2, ← Act.put_defers]
     exact h
    case enter f args =>
     refine ⟨h.1, CallsIn.mono h.2 fun e w3 he => ?_⟩
     cases e with
     | returned u => exact ⟨stays a hy u, swap a u w3 he⟩
     | panicked c => exact hQ _ _ _ he
     | outgrown => exact he
    case row row args => exact ⟨h.1, RowsIn.mono h.2 fun u w3 he => ⟨stays a hy u, swap a u w3 he⟩⟩
    case round l f tmps assign body =>
     refine ⟨h.1, RoundIn.mono h.2 fun e w3 he => ?_⟩
     cases e with
     | returned u => exact ⟨stays a hy u, swap a u w3 he⟩
     | panicked c => exact hQ _ _ _ he
     | outgrown => exact he
   | halt x w2 =>
    rw [hr] at h
    cases x <;> simp only [Oper.uponIn] at h ⊢
    case panic u => exact hQ _ _ _ h
 · simp only [hw] at h ⊢
   exact ⟨fun _ _ => trivial, stays a hy _, swap a _ w h.2⟩
def AnyIn (n : Nat) (P : Program) (md : Region.Mode) (ops : Array Oper) (Q : Exit → Act → World → Prop) (S : World → Prop) : Nat → Array Bool → Act → World → Prop
 | 0, listed, a, w => Region.ready md ops listed = [] ∧ Q .normal a w
 | fuel + 1, listed, a, w => (Region.ready md ops listed = [] → Q .normal a w) ∧ ∀ i ∈ Region.ready md ops listed, wpOpIn Fence.wide n P ops Q i (fun a2 w2 => S w2 ∧ AnyIn n P md ops Q S fuel (listed.setIfInBounds i true) a2 w2) a w
theorem any_of_anyIn : ∀ (fuel : Nat) (listed : Array Bool) (a : Act) (w : World), AnyIn n P md ops Q S fuel listed a w → wpAnyIn Fence.wide n P md ops Q fuel listed a w
 | 0, _, _, _, h => h
 | fuel + 1, _, _, _, h => ⟨h.1, fun i hi => wpOpIn_mono (fun a2 w2 h2 => any_of_anyIn fuel _ a2 w2 h2.2) (h.2 i hi)⟩
theorem AnyIn.first {i : Nat} {oi : Oper} {v : Value} (hi : ops[i]? = some oi) (hsel : ∀ (j : Nat) (o : Oper) cs b, ops[j]? = some o → o.op ≠ .select cs b)
 (hQ : ∀ c a w, Q (.panic c) (a.put oi.dst v) w → Q (.panic c) a w) :
 ∀ (fuel : Nat) (listed : Array Bool) (a : Act) (w : World),
  (∀ j oj, ops[j]? = some oj → j ≠ i → listed.getD j true = false → (∀ e ∈ oj.after, Region.binds md e = true → e.on ≠ i) → oi.apart ops oj = true) →
  i ∈ Region.ready md ops listed → YieldsIf P ops S oi v a → S w →
  AnyIn n P md ops Q S fuel (listed.setIfInBounds i true) (a.put oi.dst v) w → AnyIn n P md ops Q S (fuel + 1) listed a w := by
 intro fuel
 induction fuel with
 | zero =>
  intro listed a w _ hr hy hS H
  refine ⟨fun h => (by rw [h] at hr; cases hr), fun j hj => ?_⟩
  by_cases hji : j = i
  · subst hji; exact still_op hi hy hS ⟨hS, H⟩
  · have := ready_mono hj hji
    rw [H.1] at this
    cases this
 | succ fuel ih =>
  intro listed a w hfree hr hy hS H
  refine ⟨fun h => (by rw [h] at hr; cases hr), fun j hj => ?_⟩
  by_cases hji : j = i
  · subst hji; exact still_op hi hy hS ⟨hS, H⟩
  · have step := H.2 j (ready_mono hj hji)
    obtain ⟨hun, oj, hoj, hall⟩ := mem_ready.1 hj
    have waits : ∀ e ∈ oj.after, Region.binds md e = true → e.on ≠ i := fun e he hb heq => by
     have k1 := hall e he hb
     have k0 := (mem_ready.1 hr).1
     rw [heq] at k1
     rw [getD_both k0] at k1
     cases k1
    have swapped := other_op hoj (hfree j oj hoj hji hun waits) (fun cs b => hsel i oi cs b hi) (fun cs b => hsel j oj cs b hoj) hQ hy step
    refine wpOpIn_mono (fun a2 w2 h3 => ⟨h3.2.1, ih (listed.setIfInBounds j true) a2 w2 ?_ (ready_mono hr (Ne.symm hji)) h3.1 h3.2.1 ?_⟩) swapped
    · intro k ok hk hki hunk hno
      refine hfree k ok hk hki ?_ hno
      by_cases hjk : j = k
      · subst hjk; exact hun
      · rw [getD_set_ne true hjk] at hunk; exact hunk
    · rw [Array.setIfInBounds_comm _ _ hji]
      exact h3.2.2
theorem AnyIn.pick {w : World} (hs : Region.noSelect ops = true) (hR : ∀ c (a : Act) d v w, Q (.panic c) (a.put d v) w → Q (.panic c) a w) (hS : S w) :
 ∀ (r : List Nat) (fuel : Nat) (listed : Array Bool) (a : Act), pickB md ops r listed = true → PickOk P ops S (fun a2 => AnyIn n P md ops Q S fuel (pickSet r listed) a2 w) r a → AnyIn n P md ops Q S (fuel + r.length) listed a w
 | [], _, _, _, _, h => h
 | i :: r, fuel, listed, a, hB, h => by
  obtain ⟨o, v, ho, hy, hk⟩ := h
  simp only [pickB, Bool.and_eq_true] at hB
  exact AnyIn.first ho (Region.noSelect_spec hs) (fun c a2 w2 => hR c a2 _ _ w2) (fuel + r.length) listed a w (Region.free_spec ho hB.1.2) (by simpa using hB.1.1) hy hS (AnyIn.pick hs hR hS r fuel _ _ hB.2 hk)
theorem AnyIn.one {i : Nat} {o : Oper} {fuel : Nat} {listed : Array Bool} {a : Act} {w : World} (hr : Region.ready md ops listed = [i]) (ho : ops[i]? = some o) (hw : Region.wanted o (yielded ops a.tmps) = true)
 (h : ∀ K : Act → World → Prop, (∀ a2 w2, S w2 → (S w2 → AnyIn n P md ops Q S fuel (listed.setIfInBounds i true) a2 w2) → K a2 w2) → o.wpIn Fence.wide n P a w K Q) : AnyIn n P md ops Q S (fuel + 1) listed a w := by
 refine ⟨fun h0 => absurd (hr ▸ h0) (by simp), ?_⟩
 rw [hr]
 intro j hj
 obtain rfl : j = i := by simpa using hj
 unfold wpOpIn
 simp only [ho, hw, if_true]
 exact h _ (fun a2 w2 hS hk => ⟨hS, hk hS⟩)
theorem AnyIn.done {listed : Array Bool} {a : Act} {w : World} (hr : Region.ready md ops listed = []) (h : Q .normal a w) : ∀ fuel, AnyIn n P md ops Q S fuel listed a w
 | 0 => ⟨hr, h⟩
 | _ + 1 => ⟨fun _ => h, by rw [hr]; simp⟩
theorem iter_held {id : Nat} {a : Act} {w : World} (S : World → Prop) (hm : P.follows .mixedOrders = true)
 (h : AnyIn n P .any ops (Only (Q .normal)) S ops.size (Array.replicate ops.size false) a w.drew) : (Code.region id ops true).wpIn Fence.wide n P Q a w :=
 wpIn_mono (wpIn_region_any hm (any_of_anyIn _ _ _ _ h)) Only.imp
theorem pick_skip {K : Act → Prop} {i : Nat} {r : List Nat} {a : Act} {o : Oper} {d : Option Tmp} (ho : ops[i]? = some o) (hd : o.dst = d) (hw : Region.wanted o (yielded ops a.tmps) = false)
 (h : PickOk P ops S K r (a.put d undef)) : PickOk P ops S K (i :: r) a := by
 subst hd
 exact ⟨o, undef, ho, .inr ⟨hw, rfl⟩, h⟩
end Go.Proofs.YtliobahnekohmaaGreat
/-
  A loop over a function, where what the function hands to a round is told by how far it has come: its rule, over any program.
-/
namespace Go.Proofs.YtliobahnekohmaaGreat
open Go.RowKit
def RoundLeft (B : Nat) (Kp : World → World → Prop) (I : World → Prop) (X : Code → World → Prop) (W : World) : Exit → Act → World → Prop
 | .normal, _, W2 => KeepsFrom B W W2 ∧ Kp W W2 ∧ I W2
 | .ret, _, W2 => KeepsFrom B W W2 ∧ X .ret W2
 | .exit id, _, W2 => KeepsFrom B W W2 ∧ X (.exit id) W2
 | .goto t, _, W2 => KeepsFrom B W W2 ∧ X (.goto t) W2
 | .panic _, _, _ => False
 | .outgrown, _, _ => False
variable {P : Program}
end Go.Proofs.YtliobahnekohmaaGreat
/-
  A loop over a function that no round leaves early, where what the function hands to a round is told by how far it has come: its rule, over any program.
-/
namespace Go.Proofs.YtliobahnekohmaaGreat
open Go.RowKit
def Hands {σ : Type} (P : Program) (g : Nat) (lb : Array Value) (encs : σ → Array Value) (more : σ → Bool) (next : σ → σ) (Kp : World → World → Prop) (s : σ) (w : World) : Prop :=
 ∀ (l : Nat) (J : σ → World → Prop) (W : World), Kp w W → w.heap.size ≤ W.heap.size → (∀ s A B, J s A → A.grownBy B none → J s B) →
  (∀ s W1, J s W1 → more s = true → YieldAt Fence.wide 1 P l (encs s) W1 fun e W2 => e = .returned (.bool true) ∧ J (next s) W2 ∧ Kp W1 W2) →
  J s W → CallsIn Fence.wide 2 P g (#[.func (.yield l) #[] #[]] ++ lb) W fun e W2 => (∃ v, e = .returned v) ∧ ∃ s, more s = false ∧ J s W2
variable {P : Program}
theorem rangeN {σ : Type} {g : Operand} {ps : Array Tmp} {assign body : Code} {Q : Exit → Act → World → Prop} {a : Act} {w : World} {gf : Nat} {lb : Array Value}
 (hg : a.eval g = .func (.func gf) #[] lb) (eg : ∀ args w, (callFunc gf args).run P w = .ok (.enter gf args) w)
 {encs : σ → Array Value} {more : σ → Bool} {next : σ → σ} {Kp : World → World → Prop} {s0 : σ} (hseq : Hands P gf lb encs more next Kp s0 w)
 (hKt : ∀ {A B C : World}, Kp A B → Kp B C → Kp A C) (hKa : ∀ (o1 o2 : Obj), o1.isCells = false → o2.isCells = false → Kp w ((w.alloc o1).alloc o2))
 (hKb : ∀ (W : World) (l : Nat) (o o2 : Obj), w.heap.size ≤ l → W.heap[l]? = some o → o.isCells = false → Kp W (W.putObj l o2)) (hps : ∀ s, (encs s).size = ps.size)
 (I : σ → World → Prop) (hI : OwnFrom w.heap.size I) (h0 : I s0 w) (a1 : σ → Act)
 (hassign : ∀ (l : Nat) (s : σ) (W : World) (K : Act → World → Prop), K (a1 s) W →
  assign.wpIn (Fence.wide.inRound l) 1 P (Exit.then K (fun _ _ _ => False)) { tmps := (ps.zip (encs s)).foldl (fun t (p, v) => t.setIfInBounds p v) a.tmps, defers := [] } W)
 (hbody : ∀ (l : Nat) (s : σ) (W : World), I s W → more s = true → body.wpIn (Fence.wide.inRound l) 1 P (RoundLeft w.heap.size Kp (I (next s)) (fun _ _ => False) W) (a1 s) W)
 (hdone : ∀ (D : Nat) (s : σ) (W : World), w.heap.size ≤ D → more s = false → I s W → W.heap[D]? = some (.deferred (some [])) → Q .normal { a with defers := { target := .collected D, args := #[] } :: a.defers } W) :
 (Code.rangeFunc g ps assign body).wpIn Fence.wide 3 P Q a w := by
 refine wpIn_rangeFunc fun fn hfn => ?_
 -- the loop's record, in a state
 generalize hR : (fun (st : LoopState) (pe : Option Code) => Obj.loop { state := st, pending := pe, fn, tmps := a.tmps, params := ps, assign, body, defers := w.heap.size }) = R
 have eR : ∀ st pe, R st pe = Obj.loop { state := st, pending := pe, fn, tmps := a.tmps, params := ps, assign, body, defers := w.heap.size } := fun st pe => by rw [← hR]
 have nR : ∀ st pe, (R st pe).isCells = false := fun st pe => by rw [eR]; rfl
 generalize hL : w.heap.size + 1 = L
 -- what holds of the two blocks of the loop's own
 let Two : Obj → World → Prop := fun r W => W.heap[L]? = some r ∧ W.heap[w.heap.size]? = some (.deferred (some []))
 have two_kept : ∀ {r : Obj} {A B : World}, Two r A → A.grownBy B none → Two r B := fun h hg =>
  ⟨(hg.block L (Array.getElem?_eq_some_iff.1 h.1).1 (by simp)).trans h.1, (hg.block _ (Array.getElem?_eq_some_iff.1 h.2).1 (by simp)).trans h.2⟩
 have two_put : ∀ {r : Obj} (r2 : Obj) {A : World}, Two r A → Two r2 (A.putObj L r2) := fun r2 A h =>
  ⟨World.putObj_heap_same (Array.getElem?_eq_some_iff.1 h.1).1, (World.putObj_heap_other (by omega)).trans h.2⟩
 have two_from : ∀ {st : LoopState} {pe : Option Code} {A B : World}, Two (R st pe) A → KeepsFrom w.heap.size A B → Two (R st pe) B := fun h hk =>
  ⟨hk.same _ _ (by omega) h.1 (nR _ _), hk.same _ _ (Nat.le_refl _) h.2 rfl⟩
 have put_ok : ∀ {β : Type} {T : β → World → Prop} {s : β} {st : LoopState} {pe : Option Code} {A : World} (r2 : Obj), OwnFrom w.heap.size T → T s A → Two (R st pe) A → T s (A.putObj L r2) := fun {β T s st pe A} r2 hT hs h =>
  hT s A _ (some L) hs (grownBy_putObj' A L r2) (fun r e => by cases e; exact ⟨by omega, _, h.1, nR st pe⟩)
 have none_ok : ∀ {β : Type} {T : β → World → Prop} {s : β} {A B : World}, OwnFrom w.heap.size T → T s A → A.grownBy B none → T s B := fun hT hs hg => hT _ _ _ none hs hg (fun r e => by cases e)
 have start : Two (R .ready none) ((w.alloc (.deferred (some []))).alloc (R .ready none)) := by
  constructor
  · have := World.alloc_heap_new (w.alloc (.deferred (some []))) (R .ready none)
    rwa [World.size_alloc, hL] at this
  · exact (Below.heap_alloc _ _ _ (by simp)).trans (World.alloc_heap_new w _)
 have kstart : Kp w ((w.alloc (.deferred (some []))).alloc (R .ready none)) := hKa _ _ rfl (nR _ _)
 have istart : I s0 ((w.alloc (.deferred (some []))).alloc (R .ready none)) :=
  none_ok hI (none_ok hI h0 (World.grownBy_alloc w _ none)) (World.grownBy_alloc _ _ none)
 have zstart : w.heap.size ≤ ((w.alloc (.deferred (some []))).alloc (R .ready none)).heap.size := by simp; omega
 refine ⟨L, [{ target := .collected w.heap.size, args := #[] }], (w.alloc (.deferred (some []))).alloc (R .ready none), { target := .fn (.func gf) lb, args := #[.func (.yield L) #[] #[]] }, _, gf, #[.func (.yield L) #[] #[]] ++ lb, _,
  by rw [eR, ← hL]; exact run_enterLoop_outer _ _ _ _ _, by simp only [resolve, hg]; simp [go_sem]; rfl, (fun _ _ => trivial), by simp [invoke, go_sem, eg]; rfl, (fun h => (by cases h)), ?_⟩
 generalize (w.alloc (.deferred (some []))).alloc (R .ready none) = W0 at *
 refine (hseq L (fun s W => I s W ∧ Two (R .ready none) W) W0 kstart zstart
  (fun s A B h hg2 => ⟨none_ok hI h.1 hg2, two_kept h.2 hg2⟩) ?_ ⟨istart, start⟩).mono ?_
 · -- a round
   rintro s W ⟨hi, h2⟩ hm
   have hy := run_yield (P := P) (args := encs s) (h2.1.trans (by rw [eR])) (hps s)
   refine ⟨fn, _, assign, body, hy, roundIn_of_wpIn hfn (hassign L s W _ ⟨_, run_beginRound (h2.1.trans (by rw [eR])) rfl, ?_⟩)⟩
   have e1 : (Obj.loop { ({ state := .ready, pending := none, fn, tmps := a.tmps, params := ps, assign, body, defers := w.heap.size } : Loop) with state := .busy }) = R .busy none := by rw [eR]
   rw [e1]
   have hb2 : Two (R .busy none) (W.putObj L (R .busy none)) := two_put _ h2
   have kb : Kp W (W.putObj L (R .busy none)) := hKb _ _ _ _ (by omega) h2.1 (nR _ _)
   refine wpIn_mono (hbody L s _ (put_ok _ hI hi h2) hm) ?_
   have fin : ∀ (jump : Option Code) (W3 : World), KeepsFrom w.heap.size (W.putObj L (R .busy none)) W3 →
    (Instr.endRound L jump).run P W3 = .ok (.bool jump.isNone) (W3.putObj L (R (if jump.isNone then .ready else .done) jump)) ∧ Two (R .busy none) W3 := fun jump W3 hk => by
    have h3 := two_from hb2 hk
    have := run_endRound (P := P) jump (h3.1.trans (by rw [eR]))
    exact ⟨by rw [this, eR], h3⟩
   rintro e a3 W3 hp
   cases e with
   | normal =>
    obtain ⟨hk, hkp, hi3⟩ := hp
    obtain ⟨hr, h3⟩ := fin none W3 hk
    exact ⟨_, _, hr, ⟨rfl, ⟨put_ok _ hI hi3 h3, two_put _ h3⟩, hKt (hKt kb hkp) (hKb _ _ _ _ (by omega) h3.1 (nR _ _))⟩⟩
   | ret => exact hp.2.elim
   | exit id => exact hp.2.elim
   | goto t => exact hp.2.elim
   | panic ch => exact hp.elim
   | outgrown => exact hp.elim
 · rintro e W2 ⟨⟨v, rfl⟩, s, hm, hi, h2⟩
   have := run_endLoop (P := P) (h2.1.trans (by rw [eR])) (by simp)
   refine ⟨_, _, this, ?_⟩
   exact hdone _ s _ (Nat.le_refl _) hm (put_ok _ hI hi h2) ((World.putObj_heap_other (by omega)).trans h2.2)
end Go.Proofs.YtliobahnekohmaaGreat
