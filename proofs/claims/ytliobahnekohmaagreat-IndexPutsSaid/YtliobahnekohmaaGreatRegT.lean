import Derived.StillTail
import Derived.OrdersIn
import Derived.OrdersHeld
import Derived.RangeFuncCalls
/-
  A region that draws its order, in a round: what holds of it outside a round holds there too, where it defers nothing. Over any program.
-/
namespace Go.Proofs.YtliobahnekohmaaGreat
open Go.RowKit
def Op.plainB : Op → Bool
 | .defer _ => false
 | _ => true
variable {P : Program} {ops : Array Oper} {Q : Exit → Act → World → Prop} {l n : Nat}
theorem rows_wide {row : String} {args : Array Value} {w : World} {R : Value → World → Prop} (h : Rows P row args w R) : RowsIn (Fence.wide.inRound l) n P row args w R := fun c cs _ => by
 obtain ⟨v, w2, hR, hs⟩ := h c cs
 exact ⟨v, w2, hR, stepsIn_wide.2 hs⟩
theorem upon_round {o : Oper} {a : Act} {K : Act → World → Prop} {r : Result Next} (h : o.upon P a K Q r) : o.uponIn (Fence.wide.inRound l) n P a K Q r := by
 cases r with
 | ok x w =>
  cases x <;> simp only [Oper.upon] at h <;> simp only [Oper.uponIn]
  case enter f args => exact ⟨fun hd => (by cases hd), (callsIn_wide (n := n - 1)).2 h⟩
  case row row args => exact ⟨fun hd => (by cases hd), rows_wide h⟩
  all_goals exact h
 | halt x w => cases x <;> simp only [Oper.upon] at h <;> simp only [Oper.uponIn] <;> exact h
theorem wpOp_round (hq : ¬ LetsOut Q) (hp : ops.all (fun o => Op.plainB o.op) = true) {i : Nat} {K : Act → World → Prop} {a : Act} {w : World} (h : wpOp P ops Q i K a w) : wpOpIn (Fence.wide.inRound l) n P ops Q i K a w := by
 unfold wpOp at h
 unfold wpOpIn
 split
 · rename_i ho; simp only [ho] at h; exact h
 · rename_i o ho
   simp only [ho] at h
   have hpl : Op.plainB o.op = true := by
    have := Array.all_eq_true'.1 hp o (Array.mem_of_getElem? ho)
    exact this
   split
   · rename_i hw
     simp only [hw, if_true] at h
     rcases h with h | h
     · refine ⟨fun _ _ => trivial, ?_⟩
       rw [Oper.semAt_eq _ _ _ (fun c hc => by rw [hc] at hpl; cases hpl)]
       exact upon_round h
     · exact absurd h.2 hq
   · rename_i hw; simp only [hw] at h; exact ⟨fun _ _ => trivial, h⟩
theorem wpAny_round (hq : ¬ LetsOut Q) (hp : ops.all (fun o => Op.plainB o.op) = true) {md : Region.Mode} : ∀ (fuel : Nat) (listed : Array Bool) (a : Act) (w : World), wpAny P md ops Q fuel listed a w → wpAnyIn (Fence.wide.inRound l) n P md ops Q fuel listed a w
 | 0, _, _, _, h => h
 | fuel + 1, _, _, _, h => ⟨h.1, fun i hi => wpOpIn_mono (fun a2 w2 h2 => wpAny_round hq hp fuel _ a2 w2 h2) (wpOp_round hq hp (h.2 i hi))⟩
def Only (K : Act → World → Prop) : Exit → Act → World → Prop
 | .normal, a, w => K a w
 | _, _, _ => False
theorem Only.imp {Q : Exit → Act → World → Prop} : ∀ (e : Exit) (a : Act) (w : World), Only (Q .normal) e a w → Q e a w
 | .normal, _, _, h => h
 | .ret, _, _, h => h.elim
 | .exit _, _, _, h => h.elim
 | .goto _, _, _, h => h.elim
 | .panic _, _, _, h => h.elim
 | .outgrown, _, _, h => h.elim
theorem Only.next {K : Act → World → Prop} {Q : Exit → Act → World → Prop} {a : Act} {w : World} (h : K a w) : Only (Exit.then K Q .normal) .normal a w := h
theorem Only.panic {K : Act → World → Prop} : ∀ c (a : Act) d v w, Only K (.panic c) (a.put d v) w → Only K (.panic c) a w := fun _ _ _ _ _ h => h
theorem Only.keepsIn {K : Act → World → Prop} : ¬ LetsOut (Only K) := fun ⟨_, _, h⟩ => h
theorem round_any {id : Nat} {a : Act} {w : World} (hm : P.follows .mixedOrders = true) (hp : ops.all (fun o => Op.plainB o.op) = true)
 (h : wpAny P .any ops (Only (Q .normal)) ops.size (Array.replicate ops.size false) a w.drew) : (Code.region id ops true).wpIn (Fence.wide.inRound l) n P Q a w :=
 wpIn_mono (wpIn_region_any hm (wpAny_round Only.keepsIn hp _ _ _ _ h)) Only.imp
theorem round_held {id : Nat} {a : Act} {w : World} (S : World → Prop) (hm : P.follows .mixedOrders = true) (hp : ops.all (fun o => Op.plainB o.op) = true)
 (h : wpAnyH P .any ops (Only (Q .normal)) S ops.size (Array.replicate ops.size false) a w.drew) : (Code.region id ops true).wpIn (Fence.wide.inRound l) n P Q a w :=
 round_any hm hp (wpAny_of_held _ _ _ _ h)
theorem plain_held {id : Nat} {a : Act} {w : World} (S : World → Prop) (hm : P.follows .mixedOrders = true)
 (h : wpAnyH P .any ops (Only (Q .normal)) S ops.size (Array.replicate ops.size false) a w.drew) : (Code.region id ops true).wp P Q a w :=
 Code.wp_mono Only.imp (wp_region_held hm h)
def pickB (md : Region.Mode) (ops : Array Oper) : List Nat → Array Bool → Bool
 | [], _ => true
 | i :: r, listed => (Region.ready md ops listed).contains i && Region.free md ops listed i && pickB md ops r (listed.setIfInBounds i true)
def pickSet : List Nat → Array Bool → Array Bool
 | [], listed => listed
 | i :: r, listed => pickSet r (listed.setIfInBounds i true)
def PickOk (P : Program) (ops : Array Oper) (S : World → Prop) (K : Act → Prop) : List Nat → Act → Prop
 | [], a => K a
 | i :: r, a => ∃ o v, ops[i]? = some o ∧ YieldsIf P ops S o v a ∧ PickOk P ops S K r (a.put o.dst v)
theorem wpAnyH_pick {md : Region.Mode} {S : World → Prop} {w : World} (hs : Region.noSelect ops = true) (hR : ∀ c (a : Act) d v w, Q (.panic c) (a.put d v) w → Q (.panic c) a w) (hS : S w) :
 ∀ (r : List Nat) (fuel : Nat) (listed : Array Bool) (a : Act), pickB md ops r listed = true → PickOk P ops S (fun a2 => wpAnyH P md ops Q S fuel (pickSet r listed) a2 w) r a → wpAnyH P md ops Q S (fuel + r.length) listed a w
 | [], _, _, _, _, h => h
 | i :: r, fuel, listed, a, hB, h => by
  obtain ⟨o, v, ho, hy, hk⟩ := h
  simp only [pickB, Bool.and_eq_true] at hB
  exact wpAnyH_take ho hs hB.1.2 hB.1.1 (fun c a2 w2 => hR c a2 _ _ w2) hy hS (wpAnyH_pick hs hR hS r fuel _ _ hB.2 hk)
theorem PickOk.value {S : World → Prop} {K : Act → Prop} {i : Nat} {r : List Nat} {a : Act} {o : Oper} {d : Option Tmp} {v : Value} (ho : ops[i]? = some o) (hd : o.dst = d) (hw : Region.wanted o (yielded ops a.tmps) = true)
 (hy : ∀ w, S w → (execOp a.eval o).run P w = .ok (.value v) w) (h : PickOk P ops S K r (a.put d v)) : PickOk P ops S K (i :: r) a := by
 subst hd
 exact ⟨o, v, ho, .inl ⟨hw, hy⟩, h⟩
theorem wpAnyH_one {md : Region.Mode} {S : World → Prop} {i : Nat} {o : Oper} {fuel : Nat} {listed : Array Bool} {a : Act} {w : World} (hr : Region.ready md ops listed = [i]) (ho : ops[i]? = some o) (hw : Region.wanted o (yielded ops a.tmps) = true)
 (h : ∀ K : Act → World → Prop, (∀ a2 w2, S w2 → (S w2 → wpAnyH P md ops Q S fuel (listed.setIfInBounds i true) a2 w2) → K a2 w2) → o.wp P a w K Q) : wpAnyH P md ops Q S (fuel + 1) listed a w := by
 refine wpAnyH_all hr (by simp) ?_
 intro j hj
 obtain rfl : j = i := by simpa using hj
 unfold wpOp
 simp only [ho, hw, if_true]
 exact .inl (h _ (fun a2 w2 hS hk => ⟨hS, hk hS⟩))
theorem wpAnyH_two {md : Region.Mode} {S : World → Prop} {i j : Nat} {o1 o2 : Oper} {fuel : Nat} {listed : Array Bool} {a : Act} {w : World} (hr : Region.ready md ops listed = [i, j]) (h1 : ops[i]? = some o1) (h2 : ops[j]? = some o2)
 (hw1 : Region.wanted o1 (yielded ops a.tmps) = true) (hw2 : Region.wanted o2 (yielded ops a.tmps) = true)
 (g1 : ∀ K : Act → World → Prop, (∀ a2 w2, S w2 → (S w2 → wpAnyH P md ops Q S fuel (listed.setIfInBounds i true) a2 w2) → K a2 w2) → o1.wp P a w K Q)
 (g2 : ∀ K : Act → World → Prop, (∀ a2 w2, S w2 → (S w2 → wpAnyH P md ops Q S fuel (listed.setIfInBounds j true) a2 w2) → K a2 w2) → o2.wp P a w K Q) : wpAnyH P md ops Q S (fuel + 1) listed a w := by
 refine wpAnyH_all hr (by simp) ?_
 intro k hk
 simp only [List.mem_cons, List.not_mem_nil, or_false] at hk
 unfold wpOp
 rcases hk with rfl | rfl
 · simp only [h1, hw1, if_true]
   exact .inl (g1 _ (fun a2 w2 hS hk => ⟨hS, hk hS⟩))
 · simp only [h2, hw2, if_true]
   exact .inl (g2 _ (fun a2 w2 hS hk => ⟨hS, hk hS⟩))
/-! quiet calls, too, may be taken first -/
def YieldsQ (P : Program) (ops : Array Oper) (S : World → Prop) (o : Oper) (v : Value) (a : Act) : Prop :=
 Region.wanted o (yielded ops a.tmps) = true ∧ ∀ w, S w → (execOp a.eval o).run P w = .ok (.value v) w ∨
  ∃ f args, (execOp a.eval o).run P w = .ok (.enter f args) w ∧ Calls P f args w (fun e w2 => e = .returned v ∧ w2 = w)
theorem YieldsQ.same {S : World → Prop} {o : Oper} {v : Value} {a a2 : Act} (h : YieldsQ P ops S o v a) (he : execOp a2.eval o = execOp a.eval o) (hw : Region.wanted o (yielded ops a2.tmps) = Region.wanted o (yielded ops a.tmps)) : YieldsQ P ops S o v a2 := by
 unfold YieldsQ at *
 rw [he, hw]; exact h
theorem YieldsQ.wpOp {S : World → Prop} {i : Nat} {o : Oper} {v : Value} {a : Act} (hi : ops[i]? = some o) (h : YieldsQ P ops S o v a) {K : Act → World → Prop} {w : World} (hS : S w) (hK : K (a.put o.dst v) w) : wpOp P ops Q i K a w := by
 unfold Go.wpOp
 simp only [hi, h.1, if_true]
 refine .inl ?_
 unfold Oper.wp
 rcases h.2 w hS with hr | ⟨f, args, hr, hc⟩
 · rw [hr]; exact hK
 · rw [hr]
   refine hc.mono ?_
   rintro e w2 ⟨rfl, rfl⟩
   exact hK
theorem wpOp_putQ {S : World → Prop} {j : Nat} {oi oj : Oper} {v : Value} (hj : ops[j]? = some oj) (hap : oi.apart ops oj = true) (hsi : ∀ cs b, oi.op ≠ .select cs b) (hsj : ∀ cs b, oj.op ≠ .select cs b)
 (hQ : ∀ c a w, Q (.panic c) (a.put oi.dst v) w → Q (.panic c) a w) (hL : ¬ LetsOut Q) {K : Act → World → Prop} {a : Act} {w : World} (hy : YieldsQ P ops S oi v a) (h : wpOp P ops Q j K (a.put oi.dst v) w) :
 wpOp P ops Q j (fun a2 w2 => YieldsQ P ops S oi v a2 ∧ K (a2.put oi.dst v) w2) a w := by
 obtain ⟨h1, h2, h3⟩ := Oper.apart_spec hap
 have stays : ∀ (b : Act), YieldsQ P ops S oi v b → ∀ u, YieldsQ P ops S oi v (b.put oj.dst u) := fun b hb u => hb.same (execOp_put oi hsi b oj.dst u h3) (wanted_put oi b oj.dst u h3)
 have swap : ∀ (b : Act) (u : Value) (w2 : World), K ((b.put oi.dst v).put oj.dst u) w2 → K ((b.put oj.dst u).put oi.dst v) w2 := fun b u w2 hk => by rw [← Act.put_comm b v u h2]; exact hk
 unfold wpOp at h ⊢
 simp only [hj] at h ⊢
 rw [wanted_put oj a oi.dst v h1] at h
 by_cases hw : Region.wanted oj (yielded ops a.tmps) = true
 · simp only [hw, if_true] at h ⊢
   refine .inl ?_
   rcases h with h | h
   · unfold Oper.wp at h ⊢
     rw [execOp_put oj hsj a oi.dst v h1] at h
     cases hr : (execOp a.eval oj).run P w with
     | ok n w2 =>
      rw [hr] at h
      cases n <;> simp only [Oper.upon] at h ⊢
      case value u => exact ⟨stays a hy u, swap a u w2 h⟩
      case skip => exact ⟨stays a hy _, swap a _ w2 h⟩
      case defer d =>
       refine ⟨stays { a with defers := d :: a.defers } (hy.same rfl rfl) _, ?_⟩
       rw [← Act.put_comm _ v undef h2, ← Act.put_defers]
       exact h
      case enter f args =>
       refine Calls.mono h ?_
       intro e w3 he
       cases e with
       | returned u => exact ⟨stays a hy u, swap a u w3 he⟩
       | panicked c => exact hQ _ _ _ he
       | outgrown => exact he
      case row row args => exact Rows.mono h fun u w3 he => ⟨stays a hy u, swap a u w3 he⟩
     | halt x w2 =>
      rw [hr] at h
      cases x <;> simp only [Oper.upon] at h ⊢
      case panic u => exact hQ _ _ _ h
   · exact absurd h.2 hL
 · simp only [hw] at h ⊢
   exact ⟨stays a hy _, swap a _ w h⟩
theorem wpAnyH_firstQ {md : Region.Mode} {S : World → Prop} {i : Nat} {oi : Oper} {v : Value} (hi : ops[i]? = some oi) (hsel : ∀ (j : Nat) (o : Oper) cs b, ops[j]? = some o → o.op ≠ .select cs b)
 (hQ : ∀ c a w, Q (.panic c) (a.put oi.dst v) w → Q (.panic c) a w) (hL : ¬ LetsOut Q) :
 ∀ (fuel : Nat) (listed : Array Bool) (a : Act) (w : World),
  (∀ j oj, ops[j]? = some oj → j ≠ i → listed.getD j true = false → (∀ e ∈ oj.after, Region.binds md e = true → e.on ≠ i) → oi.apart ops oj = true) →
  i ∈ Region.ready md ops listed → YieldsQ P ops S oi v a → S w →
  wpAnyH P md ops Q S fuel (listed.setIfInBounds i true) (a.put oi.dst v) w → wpAnyH P md ops Q S (fuel + 1) listed a w := by
 intro fuel
 induction fuel with
 | zero =>
  intro listed a w _ hr hy hS H
  refine ⟨fun h => (by rw [h] at hr; cases hr), fun j hj => ?_⟩
  by_cases hji : j = i
  · subst hji; exact hy.wpOp hi hS ⟨hS, H⟩
  · have := ready_mono hj hji
    rw [H.1] at this
    cases this
 | succ fuel ih =>
  intro listed a w hfree hr hy hS H
  refine ⟨fun h => (by rw [h] at hr; cases hr), fun j hj => ?_⟩
  by_cases hji : j = i
  · subst hji; exact hy.wpOp hi hS ⟨hS, H⟩
  · have step := H.2 j (ready_mono hj hji)
    obtain ⟨hun, oj, hoj, hall⟩ := mem_ready.1 hj
    have waits : ∀ e ∈ oj.after, Region.binds md e = true → e.on ≠ i := fun e he hb heq => by
     have k1 := hall e he hb
     have k0 := (mem_ready.1 hr).1
     rw [heq] at k1
     rw [getD_both k0] at k1
     cases k1
    have swapped := wpOp_putQ hoj (hfree j oj hoj hji hun waits) (fun cs b => hsel i oi cs b hi) (fun cs b => hsel j oj cs b hoj) hQ hL hy step
    refine wpOp_mono (fun a2 w2 h3 => ⟨h3.2.1, ih (listed.setIfInBounds j true) a2 w2 ?_ (ready_mono hr (Ne.symm hji)) h3.1 h3.2.1 ?_⟩) swapped
    · intro k ok hk hki hunk hno
      refine hfree k ok hk hki ?_ hno
      by_cases hjk : j = k
      · subst hjk; exact hun
      · rw [getD_set_ne true hjk] at hunk; exact hunk
    · rw [Array.setIfInBounds_comm _ _ hji]
      exact h3.2.2
def PickQ (P : Program) (ops : Array Oper) (S : World → Prop) (K : Act → Prop) : List Nat → Act → Prop
 | [], a => K a
 | i :: r, a => ∃ o v, ops[i]? = some o ∧ YieldsQ P ops S o v a ∧ PickQ P ops S K r (a.put o.dst v)
theorem wpAnyH_pickQ {md : Region.Mode} {S : World → Prop} {w : World} (hs : Region.noSelect ops = true) (hR : ∀ c (a : Act) d v w, Q (.panic c) (a.put d v) w → Q (.panic c) a w) (hL : ¬ LetsOut Q) (hS : S w) :
 ∀ (r : List Nat) (fuel : Nat) (listed : Array Bool) (a : Act), pickB md ops r listed = true → PickQ P ops S (fun a2 => wpAnyH P md ops Q S fuel (pickSet r listed) a2 w) r a → wpAnyH P md ops Q S (fuel + r.length) listed a w
 | [], _, _, _, _, h => h
 | i :: r, fuel, listed, a, hB, h => by
  obtain ⟨o, v, ho, hy, hk⟩ := h
  simp only [pickB, Bool.and_eq_true] at hB
  exact wpAnyH_firstQ ho (Region.noSelect_spec hs) (fun c a2 w2 => hR c a2 _ _ w2) hL (fuel + r.length) listed a w (Region.free_spec ho hB.1.2) (by simpa using hB.1.1) hy hS (wpAnyH_pickQ hs hR hL hS r fuel _ _ hB.2 hk)
theorem PickQ.value {S : World → Prop} {K : Act → Prop} {i : Nat} {r : List Nat} {a : Act} {o : Oper} {d : Option Tmp} (v : Value) (ho : ops[i]? = some o) (hd : o.dst = d) (hw : Region.wanted o (yielded ops a.tmps) = true)
 (hy : ∀ w, S w → (execOp a.eval o).run P w = .ok (.value v) w) (h : PickQ P ops S K r (a.put d v)) : PickQ P ops S K (i :: r) a := by
 subst hd
 exact ⟨o, v, ho, ⟨hw, fun w hS => .inl (hy w hS)⟩, h⟩
end Go.Proofs.YtliobahnekohmaaGreat
/-
  A region that draws its order, whose last operations write what it loads: reads may be taken first, as long as those that write wait for them. Over any program.
-/
namespace Go.Proofs.YtliobahnekohmaaGreat
open Go.RowKit
variable {P : Program} {ops : Array Oper} {Q : Exit → Act → World → Prop} {md : Region.Mode} {S : World → Prop}
def YieldsT (P : Program) (ops : Array Oper) (S : World → Prop) (o : Oper) (v : Value) (a : Act) : Prop :=
 (Region.wanted o (yielded ops a.tmps) = true ∧ ∀ w, S w → (execOp a.eval o).run P w = .ok (.value v) w ∨
  ∃ f args, (execOp a.eval o).run P w = .ok (.enter f args) w ∧ Calls P f args w (fun e w2 => e = .returned v ∧ w2 = w)) ∨
 (Region.wanted o (yielded ops a.tmps) = false ∧ v = undef)
theorem YieldsT.same {o : Oper} {v : Value} {a a2 : Act} (h : YieldsT P ops S o v a) (he : execOp a2.eval o = execOp a.eval o) (hw : Region.wanted o (yielded ops a2.tmps) = Region.wanted o (yielded ops a.tmps)) : YieldsT P ops S o v a2 := by
 unfold YieldsT at *
 rw [he, hw]; exact h
theorem YieldsT.wpOp {i : Nat} {o : Oper} {v : Value} {a : Act} (hi : ops[i]? = some o) (h : YieldsT P ops S o v a) {K : Act → World → Prop} {w : World} (hS : S w) (hK : K (a.put o.dst v) w) : wpOp P ops Q i K a w := by
 unfold Go.wpOp
 simp only [hi]
 rcases h with ⟨hw, h⟩ | ⟨hw, rfl⟩
 · simp only [hw, if_true]
   refine .inl ?_
   unfold Oper.wp
   rcases h w hS with hr | ⟨f, args, hr, hc⟩
   · rw [hr]; exact hK
   · rw [hr]
     refine hc.mono ?_
     rintro e w2 ⟨rfl, rfl⟩
     exact hK
 · simp only [hw, Bool.false_eq_true, if_false]; exact hK
theorem wpOp_putT {j : Nat} {oi oj : Oper} {v : Value} (hj : ops[j]? = some oj) (hap : oi.apart ops oj = true) (hsi : ∀ cs b, oi.op ≠ .select cs b) (hsj : ∀ cs b, oj.op ≠ .select cs b)
 (hQ : ∀ c a w, Q (.panic c) (a.put oi.dst v) w → Q (.panic c) a w) (hL : ¬ LetsOut Q) {K : Act → World → Prop} {a : Act} {w : World} (hy : YieldsT P ops S oi v a) (h : wpOp P ops Q j K (a.put oi.dst v) w) :
 wpOp P ops Q j (fun a2 w2 => YieldsT P ops S oi v a2 ∧ K (a2.put oi.dst v) w2) a w := by
 obtain ⟨h1, h2, h3⟩ := Oper.apart_spec hap
 have stays : ∀ (b : Act), YieldsT P ops S oi v b → ∀ u, YieldsT P ops S oi v (b.put oj.dst u) := fun b hb u => hb.same (execOp_put oi hsi b oj.dst u h3) (wanted_put oi b oj.dst u h3)
 have swap : ∀ (b : Act) (u : Value) (w2 : World), K ((b.put oi.dst v).put oj.dst u) w2 → K ((b.put oj.dst u).put oi.dst v) w2 := fun b u w2 hk => by rw [← Act.put_comm b v u h2]; exact hk
 unfold wpOp at h ⊢
 simp only [hj] at h ⊢
 rw [wanted_put oj a oi.dst v h1] at h
 by_cases hw : Region.wanted oj (yielded ops a.tmps) = true
 · simp only [hw, if_true] at h ⊢
   refine .inl ?_
   rcases h with h | h
   · unfold Oper.wp at h ⊢
     rw [execOp_put oj hsj a oi.dst v h1] at h
     cases hr : (execOp a.eval oj).run P w with
     | ok n w2 =>
      rw [hr] at h
      cases n <;> simp only [Oper.upon] at h ⊢
      case value u => exact ⟨stays a hy u, swap a u w2 h⟩
      case skip => exact ⟨stays a hy _, swap a _ w2 h⟩
      case defer d =>
       refine ⟨stays { a with defers := d :: a.defers } (hy.same rfl rfl) _, ?_⟩
       rw [← Act.put_comm _ v undef h2, ← Act.put_defers]
       exact h
      case enter f args =>
       refine Calls.mono h ?_
       intro e w3 he
       cases e with
       | returned u => exact ⟨stays a hy u, swap a u w3 he⟩
       | panicked c => exact hQ _ _ _ he
       | outgrown => exact he
      case row row args => exact Rows.mono h fun u w3 he => ⟨stays a hy u, swap a u w3 he⟩
     | halt x w2 =>
      rw [hr] at h
      cases x <;> simp only [Oper.upon] at h ⊢
      case panic u => exact hQ _ _ _ h
   · exact absurd h.2 hL
 · simp only [hw] at h ⊢
   exact ⟨stays a hy _, swap a _ w h⟩
def wpAnyT (P : Program) (md : Region.Mode) (ops : Array Oper) (Q : Exit → Act → World → Prop) (S : World → Prop) (T : List Nat) : Nat → Array Bool → Act → World → Prop
 | 0, listed, a, w => Region.ready md ops listed = [] ∧ Q .normal a w
 | fuel + 1, listed, a, w =>
  (Region.ready md ops listed = [] → Q .normal a w) ∧
  ∀ i ∈ Region.ready md ops listed, wpOp P ops Q i (fun a' w' => (T.contains i = false → S w') ∧ wpAnyT P md ops Q S T fuel (listed.setIfInBounds i true) a' w') a w
theorem wpAny_of_T {T : List Nat} : ∀ (fuel : Nat) (listed : Array Bool) (a : Act) (w : World), wpAnyT P md ops Q S T fuel listed a w → wpAny P md ops Q fuel listed a w
 | 0, _, _, _, h => h
 | fuel + 1, _, _, _, h => ⟨h.1, fun i hi => wpOp_mono (fun a' w' h' => wpAny_of_T fuel _ a' w' h'.2) (h.2 i hi)⟩
def Waits (md : Region.Mode) (ops : Array Oper) (i : Nat) (U : List Nat) : Prop := ∀ u ∈ U, ∃ o, ops[u]? = some o ∧ ∃ e ∈ o.after, Region.binds md e = true ∧ (e.on = i ∨ e.on ∈ U)
theorem Waits.not_ready {i j : Nat} {U : List Nat} {listed : Array Bool} (h : Waits md ops i U) (hi : listed.getD i true = false) (hU : ∀ u ∈ U, listed.getD u true = false) (hj : j ∈ Region.ready md ops listed) : j ∉ U := by
 intro hju
 obtain ⟨o, ho, e, he, hb, hon⟩ := h j hju
 obtain ⟨-, oj, hoj, hall⟩ := mem_ready.1 hj
 rw [ho] at hoj
 cases hoj
 have k1 := hall e he hb
 rcases hon with e1 | e1
 · rw [e1, getD_both hi] at k1; cases k1
 · rw [getD_both (hU _ e1)] at k1; cases k1
theorem wpAnyT_first {T U : List Nat} {i : Nat} {oi : Oper} {v : Value} (hi : ops[i]? = some oi) (hsel : ∀ (j : Nat) (o : Oper) cs b, ops[j]? = some o → o.op ≠ .select cs b)
 (hQ : ∀ c a w, Q (.panic c) (a.put oi.dst v) w → Q (.panic c) a w) (hL : ¬ LetsOut Q) (hw : Waits md ops i U) (hT : ∀ t ∈ T, t ∈ U) :
 ∀ (fuel : Nat) (listed : Array Bool) (a : Act) (w : World),
  (∀ j oj, ops[j]? = some oj → j ≠ i → listed.getD j true = false → (∀ e ∈ oj.after, Region.binds md e = true → e.on ≠ i) → oi.apart ops oj = true) → (∀ u ∈ U, listed.getD u true = false) →
  i ∈ Region.ready md ops listed → YieldsT P ops S oi v a → S w →
  wpAnyT P md ops Q S T fuel (listed.setIfInBounds i true) (a.put oi.dst v) w → wpAnyT P md ops Q S T (fuel + 1) listed a w := by
 intro fuel
 induction fuel with
 | zero =>
  intro listed a w _ _ hr hy hS H
  refine ⟨fun h => (by rw [h] at hr; cases hr), fun j hj => ?_⟩
  by_cases hji : j = i
  · subst hji; exact hy.wpOp hi hS ⟨fun _ => hS, H⟩
  · have := ready_mono hj hji
    rw [H.1] at this
    cases this
 | succ fuel ih =>
  intro listed a w hfree hU hr hy hS H
  refine ⟨fun h => (by rw [h] at hr; cases hr), fun j hj => ?_⟩
  by_cases hji : j = i
  · subst hji; exact hy.wpOp hi hS ⟨fun _ => hS, H⟩
  · have step := H.2 j (ready_mono hj hji)
    obtain ⟨hun, oj, hoj, hall⟩ := mem_ready.1 hj
    have hnU := hw.not_ready (mem_ready.1 hr).1 hU hj
    have hnT : T.contains j = false := by
     rw [List.contains_eq_mem]
     exact decide_eq_false (fun h => hnU (hT j h))
    have waits : ∀ e ∈ oj.after, Region.binds md e = true → e.on ≠ i := fun e he hb heq => by
     have k1 := hall e he hb
     have k0 := (mem_ready.1 hr).1
     rw [heq] at k1
     rw [getD_both k0] at k1
     cases k1
    have swapped := wpOp_putT hoj (hfree j oj hoj hji hun waits) (fun cs b => hsel i oi cs b hi) (fun cs b => hsel j oj cs b hoj) hQ hL hy step
    refine wpOp_mono (fun a2 w2 h3 => ⟨fun _ => h3.2.1 hnT, ih (listed.setIfInBounds j true) a2 w2 ?_ ?_ (ready_mono hr (Ne.symm hji)) h3.1 (h3.2.1 hnT) ?_⟩) swapped
    · intro k ok hk hki hunk hno
      refine hfree k ok hk hki ?_ hno
      by_cases hjk : j = k
      · subst hjk; exact hun
      · rw [getD_set_ne true hjk] at hunk; exact hunk
    · intro u hu
      rw [getD_set_ne true (by rintro rfl; exact hnU hu)]
      exact hU u hu
    · rw [Array.setIfInBounds_comm _ _ hji]
      exact h3.2.2
def waiters (md : Region.Mode) (ops : Array Oper) (i : Nat) : List Nat := (List.range ops.size).foldl (fun U u => match ops[u]? with | some o => if o.after.any (fun e => Region.binds md e && (e.on == i || U.contains e.on)) then u :: U else U | none => U) []
def waitsB (md : Region.Mode) (ops : Array Oper) (i : Nat) (U : List Nat) : Bool := U.all fun u => match ops[u]? with | some o => o.after.any (fun e => Region.binds md e && (e.on == i || U.contains e.on)) | none => false
theorem waits_of {i : Nat} {U : List Nat} (h : waitsB md ops i U = true) : Waits md ops i U := by
 intro u hu
 have := List.all_eq_true.1 h u hu
 split at this
 · rename_i o ho
   refine ⟨o, ho, ?_⟩
   simp only [Array.any_eq_true'] at this
   obtain ⟨e, he, hb⟩ := this
   simp only [Bool.and_eq_true, Bool.or_eq_true, beq_iff_eq, List.contains_iff_mem] at hb
   exact ⟨e, he, hb.1, hb.2⟩
 · cases this
def pickTB (md : Region.Mode) (ops : Array Oper) (T : List Nat) : List Nat → Array Bool → Bool
 | [], _ => true
 | i :: r, listed => (Region.ready md ops listed).contains i && Region.free md ops listed i && (waitsB md ops i (waiters md ops i) && (T.all (waiters md ops i).contains && (waiters md ops i).all (fun u => listed.getD u true == false))) && pickTB md ops T r (listed.setIfInBounds i true)
def PickT (P : Program) (ops : Array Oper) (S : World → Prop) (K : Act → Prop) : List Nat → Act → Prop
 | [], a => K a
 | i :: r, a => ∃ o v, ops[i]? = some o ∧ YieldsT P ops S o v a ∧ PickT P ops S K r (a.put o.dst v)
theorem wpAnyT_pick {T : List Nat} {w : World} (hs : Region.noSelect ops = true) (hR : ∀ c (a : Act) d v w, Q (.panic c) (a.put d v) w → Q (.panic c) a w) (hL : ¬ LetsOut Q) (hS : S w) :
 ∀ (r : List Nat) (fuel : Nat) (listed : Array Bool) (a : Act), pickTB md ops T r listed = true → PickT P ops S (fun a2 => wpAnyT P md ops Q S T fuel (pickSet r listed) a2 w) r a → wpAnyT P md ops Q S T (fuel + r.length) listed a w
 | [], _, _, _, _, h => h
 | i :: r, fuel, listed, a, hB, h => by
  obtain ⟨o, v, ho, hy, hk⟩ := h
  simp only [pickTB, Bool.and_eq_true] at hB
  obtain ⟨⟨⟨h1, h2⟩, h3, h4, h5⟩, h6⟩ := hB
  refine wpAnyT_first ho (Region.noSelect_spec hs) (fun c a2 w2 => hR c a2 _ _ w2) hL (waits_of h3) (fun t ht => ?_) (fuel + r.length) listed a w (Region.free_spec ho h2) (fun u hu => ?_) (by simpa using h1) hy hS (wpAnyT_pick hs hR hL hS r fuel _ _ h6 hk)
  · have := List.all_eq_true.1 h4 t ht
    simpa using this
  · have := List.all_eq_true.1 h5 u hu
    simpa using this
theorem PickT.value {K : Act → Prop} {i : Nat} {r : List Nat} {a : Act} {o : Oper} {d : Option Tmp} (v : Value) (ho : ops[i]? = some o) (hd : o.dst = d) (hw : Region.wanted o (yielded ops a.tmps) = true)
 (hy : ∀ w, S w → (execOp a.eval o).run P w = .ok (.value v) w) (h : PickT P ops S K r (a.put d v)) : PickT P ops S K (i :: r) a := by
 subst hd
 exact ⟨o, v, ho, .inl ⟨hw, fun w hS => .inl (hy w hS)⟩, h⟩
theorem PickT.skip {K : Act → Prop} {i : Nat} {r : List Nat} {a : Act} {o : Oper} {d : Option Tmp} (ho : ops[i]? = some o) (hd : o.dst = d) (hw : Region.wanted o (yielded ops a.tmps) = false) (h : PickT P ops S K r (a.put d undef)) : PickT P ops S K (i :: r) a := by
 subst hd
 exact ⟨o, undef, ho, .inr ⟨hw, rfl⟩, h⟩
theorem wpAnyT_one {T : List Nat} {i : Nat} {o : Oper} {fuel : Nat} {listed : Array Bool} {a : Act} {w : World} (hr : Region.ready md ops listed = [i]) (ho : ops[i]? = some o) (hw : Region.wanted o (yielded ops a.tmps) = true)
 (h : ∀ K : Act → World → Prop, (∀ a2 w2, (T.contains i = false → S w2) → wpAnyT P md ops Q S T fuel (listed.setIfInBounds i true) a2 w2 → K a2 w2) → o.wp P a w K Q) : wpAnyT P md ops Q S T (fuel + 1) listed a w := by
 refine ⟨fun h0 => (by rw [hr] at h0; cases h0), ?_⟩
 intro j hj
 rw [hr] at hj
 obtain rfl : j = i := by simpa using hj
 unfold wpOp
 simp only [ho, hw, if_true]
 exact .inl (h _ (fun a2 w2 hS hk => ⟨hS, hk⟩))
theorem wpAnyT_done {T : List Nat} {listed : Array Bool} {a : Act} {w : World} (hr : Region.ready md ops listed = []) (h : Q .normal a w) :
 ∀ fuel, wpAnyT P md ops Q S T fuel listed a w
 | 0 => ⟨hr, h⟩
 | _ + 1 => ⟨fun _ => h, by rw [hr]; simp⟩
theorem plain_T {id : Nat} {a : Act} {w : World} (S : World → Prop) (T : List Nat) (hm : P.follows .mixedOrders = true)
 (h : wpAnyT P .any ops (Only (Q .normal)) S T ops.size (Array.replicate ops.size false) a w.drew) : (Code.region id ops true).wp P Q a w :=
 Code.wp_mono Only.imp (wp_region_any hm (wpAny_of_T _ _ _ _ h))
end Go.Proofs.YtliobahnekohmaaGreat
