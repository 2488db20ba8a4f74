import Derived.Test.YtfibapfehgglhaaGreatDoorRoundAny
import Derived.Test.YtfibapfehgglhaaGreatDoorNumM
import Derived.Laws.AppendOwnNone
import Derived.Laws.OwnMore
import Derived.ArgAppend
import Derived.OwnWalkIn
import Derived.Deep.Slices
import Derived.Deep.SlicePairs
/-
  A region that draws its order, whose last operations write what it loads: reads may be taken first, as long as those that write wait for them. Over any program.
-/
namespace Go.Proofs.YtfibapfehgglhaaGreatDoor
open Go.RowKit
variable {P : Program} {ops : Array Oper} {Q : Exit → Act → World → Prop} {md : Region.Mode} {S : World → Prop}
/-- it yields a value, or calls quietly what yields it, in every world that meets S; or it is not asked for -/
def YieldsT (P : Program) (ops : Array Oper) (S : World → Prop) (o : Oper) (v : Value) (a : Act) : Prop :=
  (Region.wanted o (yielded ops a.tmps) = true ∧ ∀ w, S w → (execOp a.eval o).run P w = .ok (.value v) w ∨
    ∃ f args, (execOp a.eval o).run P w = .ok (.enter f args) w ∧ Calls P f args w (fun e w2 => e = .returned v ∧ w2 = w)) ∨
  (Region.wanted o (yielded ops a.tmps) = false ∧ v = undef)
theorem YieldsT.same {o : Oper} {v : Value} {a a2 : Act} (h : YieldsT P ops S o v a) (he : execOp a2.eval o = execOp a.eval o) (hw : Region.wanted o (yielded ops a2.tmps) = Region.wanted o (yielded ops a.tmps)) : YieldsT P ops S o v a2 := by
  unfold YieldsT at *
  rw [he, hw]; exact h
theorem YieldsT.wpOp {i : Nat} {o : Oper} {v : Value} {a : Act} (hi : ops[i]? = some o) (h : YieldsT P ops S o v a) {K : Act → World → Prop} {w : World} (hS : S w) (hK : K (a.put o.dst v) w) : wpOp P ops Q i K a w := by
  unfold Go.wpOp
  simp only [hi]
  rcases h with ⟨hw, h⟩ | ⟨hw, rfl⟩
  · simp only [hw, if_true]
    refine .inl ?_
    unfold Oper.wp
    rcases h w hS with hr | ⟨f, args, hr, hc⟩
    · rw [hr]; exact hK
    · rw [hr]
      refine hc.mono ?_
      rintro e w2 ⟨rfl, rfl⟩
      exact hK
  · simp only [hw, Bool.false_eq_true, if_false]; exact hK
theorem wpOp_putT {j : Nat} {oi oj : Oper} {v : Value} (hj : ops[j]? = some oj) (hap : oi.apart ops oj = true) (hsi : ∀ cs b, oi.op ≠ .select cs b) (hsj : ∀ cs b, oj.op ≠ .select cs b)
    (hQ : ∀ c a w, Q (.panic c) (a.put oi.dst v) w → Q (.panic c) a w) (hL : ¬ LetsOut Q) {K : Act → World → Prop} {a : Act} {w : World} (hy : YieldsT P ops S oi v a) (h : wpOp P ops Q j K (a.put oi.dst v) w) :
    wpOp P ops Q j (fun a2 w2 => YieldsT P ops S oi v a2 ∧ K (a2.put oi.dst v) w2) a w := by
  obtain ⟨h1, h2, h3⟩ := Oper.apart_spec hap
  have stays : ∀ (b : Act), YieldsT P ops S oi v b → ∀ u, YieldsT P ops S oi v (b.put oj.dst u) := fun b hb u => hb.same (execOp_put oi hsi b oj.dst u h3) (wanted_put oi b oj.dst u h3)
  have swap : ∀ (b : Act) (u : Value) (w2 : World), K ((b.put oi.dst v).put oj.dst u) w2 → K ((b.put oj.dst u).put oi.dst v) w2 := fun b u w2 hk => by rw [← Act.put_comm b v u h2]; exact hk
  unfold wpOp at h ⊢
  simp only [hj] at h ⊢
  rw [wanted_put oj a oi.dst v h1] at h
  by_cases hw : Region.wanted oj (yielded ops a.tmps) = true
  · simp only [hw, if_true] at h ⊢
    refine .inl ?_
    rcases h with h | h
    · unfold Oper.wp at h ⊢
      rw [execOp_put oj hsj a oi.dst v h1] at h
      cases hr : (execOp a.eval oj).run P w with
      | ok n w2 =>
        rw [hr] at h
        cases n <;> simp only [Oper.upon] at h ⊢
        case value u => exact ⟨stays a hy u, swap a u w2 h⟩
        case skip => exact ⟨stays a hy _, swap a _ w2 h⟩
        case defer d =>
          refine ⟨stays { a with defers := d :: a.defers } (hy.same rfl rfl) _, ?_⟩
          rw [← Act.put_comm _ v undef h2, ← Act.put_defers]
          exact h
        case enter f args =>
          refine Calls.mono h ?_
          intro e w3 he
          cases e with
          | returned u => exact ⟨stays a hy u, swap a u w3 he⟩
          | panicked c => exact hQ _ _ _ he
          | outgrown => exact he
        case row row args => exact Rows.mono h fun u w3 he => ⟨stays a hy u, swap a u w3 he⟩
      | halt x w2 =>
        rw [hr] at h
        cases x <;> simp only [Oper.upon] at h ⊢
        case panic u => exact hQ _ _ _ h
    · exact absurd h.2 hL
  · simp only [hw] at h ⊢
    exact ⟨stays a hy _, swap a _ w h⟩
/-- whatever order is picked from here on, and S holds behind every operation that is none of T -/
def wpAnyT (P : Program) (md : Region.Mode) (ops : Array Oper) (Q : Exit → Act → World → Prop) (S : World → Prop) (T : List Nat) : Nat → Array Bool → Act → World → Prop
  | 0, listed, a, w => Region.ready md ops listed = [] ∧ Q .normal a w
  | fuel + 1, listed, a, w =>
    (Region.ready md ops listed = [] → Q .normal a w) ∧
    ∀ i ∈ Region.ready md ops listed, wpOp P ops Q i (fun a' w' => (T.contains i = false → S w') ∧ wpAnyT P md ops Q S T fuel (listed.setIfInBounds i true) a' w') a w
theorem wpAny_of_T {T : List Nat} : ∀ (fuel : Nat) (listed : Array Bool) (a : Act) (w : World), wpAnyT P md ops Q S T fuel listed a w → wpAny P md ops Q fuel listed a w
  | 0, _, _, _, h => h
  | fuel + 1, _, _, _, h => ⟨h.1, fun i hi => wpOp_mono (fun a' w' h' => wpAny_of_T fuel _ a' w' h'.2) (h.2 i hi)⟩
/-- those of U wait for i, or for each other -/
def Waits (md : Region.Mode) (ops : Array Oper) (i : Nat) (U : List Nat) : Prop := ∀ u ∈ U, ∃ o, ops[u]? = some o ∧ ∃ e ∈ o.after, Region.binds md e = true ∧ (e.on = i ∨ e.on ∈ U)
theorem Waits.not_ready {i j : Nat} {U : List Nat} {listed : Array Bool} (h : Waits md ops i U) (hi : listed.getD i true = false) (hU : ∀ u ∈ U, listed.getD u true = false) (hj : j ∈ Region.ready md ops listed) : j ∉ U := by
  intro hju
  obtain ⟨o, ho, e, he, hb, hon⟩ := h j hju
  obtain ⟨-, oj, hoj, hall⟩ := mem_ready.1 hj
  rw [ho] at hoj
  cases hoj
  have k1 := hall e he hb
  rcases hon with e1 | e1
  · rw [e1, getD_both hi] at k1; cases k1
  · rw [getD_both (hU _ e1)] at k1; cases k1
theorem wpAnyT_first {T U : List Nat} {i : Nat} {oi : Oper} {v : Value} (hi : ops[i]? = some oi) (hsel : ∀ (j : Nat) (o : Oper) cs b, ops[j]? = some o → o.op ≠ .select cs b)
    (hQ : ∀ c a w, Q (.panic c) (a.put oi.dst v) w → Q (.panic c) a w) (hL : ¬ LetsOut Q) (hw : Waits md ops i U) (hT : ∀ t ∈ T, t ∈ U) :
    ∀ (fuel : Nat) (listed : Array Bool) (a : Act) (w : World),
      (∀ j oj, ops[j]? = some oj → j ≠ i → listed.getD j true = false → (∀ e ∈ oj.after, Region.binds md e = true → e.on ≠ i) → oi.apart ops oj = true) → (∀ u ∈ U, listed.getD u true = false) →
      i ∈ Region.ready md ops listed → YieldsT P ops S oi v a → S w →
      wpAnyT P md ops Q S T fuel (listed.setIfInBounds i true) (a.put oi.dst v) w → wpAnyT P md ops Q S T (fuel + 1) listed a w := by
  intro fuel
  induction fuel with
  | zero =>
    intro listed a w _ _ hr hy hS H
    refine ⟨fun h => (by rw [h] at hr; cases hr), fun j hj => ?_⟩
    by_cases hji : j = i
    · subst hji; exact hy.wpOp hi hS ⟨fun _ => hS, H⟩
    · have := ready_mono hj hji
      rw [H.1] at this
      cases this
  | succ fuel ih =>
    intro listed a w hfree hU hr hy hS H
    refine ⟨fun h => (by rw [h] at hr; cases hr), fun j hj => ?_⟩
    by_cases hji : j = i
    · subst hji; exact hy.wpOp hi hS ⟨fun _ => hS, H⟩
    · have step := H.2 j (ready_mono hj hji)
      obtain ⟨hun, oj, hoj, hall⟩ := mem_ready.1 hj
      have hnU := hw.not_ready (mem_ready.1 hr).1 hU hj
      have hnT : T.contains j = false := by
        rw [List.contains_eq_mem]
        exact decide_eq_false (fun h => hnU (hT j h))
      have waits : ∀ e ∈ oj.after, Region.binds md e = true → e.on ≠ i := fun e he hb heq => by
        have k1 := hall e he hb
        have k0 := (mem_ready.1 hr).1
        rw [heq] at k1
        rw [getD_both k0] at k1
        cases k1
      have swapped := wpOp_putT hoj (hfree j oj hoj hji hun waits) (fun cs b => hsel i oi cs b hi) (fun cs b => hsel j oj cs b hoj) hQ hL hy step
      refine wpOp_mono (fun a2 w2 h3 => ⟨fun _ => h3.2.1 hnT, ih (listed.setIfInBounds j true) a2 w2 ?_ ?_ (ready_mono hr (Ne.symm hji)) h3.1 (h3.2.1 hnT) ?_⟩) swapped
      · intro k ok hk hki hunk hno
        refine hfree k ok hk hki ?_ hno
        by_cases hjk : j = k
        · subst hjk; exact hun
        · rw [getD_set_ne true hjk] at hunk; exact hunk
      · intro u hu
        rw [getD_set_ne true (by rintro rfl; exact hnU hu)]
        exact hU u hu
      · rw [Array.setIfInBounds_comm _ _ hji]
        exact h3.2.2
/-- those that wait for i, one behind the other -/
def waiters (md : Region.Mode) (ops : Array Oper) (i : Nat) : List Nat := (List.range ops.size).foldl (fun U u => match ops[u]? with | some o => if o.after.any (fun e => Region.binds md e && (e.on == i || U.contains e.on)) then u :: U else U | none => U) []
def waitsB (md : Region.Mode) (ops : Array Oper) (i : Nat) (U : List Nat) : Bool := U.all fun u => match ops[u]? with | some o => o.after.any (fun e => Region.binds md e && (e.on == i || U.contains e.on)) | none => false
theorem waits_of {i : Nat} {U : List Nat} (h : waitsB md ops i U = true) : Waits md ops i U := by
  intro u hu
  have := List.all_eq_true.1 h u hu
  split at this
  · rename_i o ho
    refine ⟨o, ho, ?_⟩
    simp only [Array.any_eq_true'] at this
    obtain ⟨e, he, hb⟩ := this
    simp only [Bool.and_eq_true, Bool.or_eq_true, beq_iff_eq, List.contains_iff_mem] at hb
    exact ⟨e, he, hb.1, hb.2⟩
  · cases this
def pickTB (md : Region.Mode) (ops : Array Oper) (T : List Nat) : List Nat → Array Bool → Bool
  | [], _ => true
  | i :: r, listed => (Region.ready md ops listed).contains i && Region.free md ops listed i && (waitsB md ops i (waiters md ops i) && (T.all (waiters md ops i).contains && (waiters md ops i).all (fun u => listed.getD u true == false))) && pickTB md ops T r (listed.setIfInBounds i true)
/-- each yields a value, or calls quietly, in every world that meets S -/
def PickT (P : Program) (ops : Array Oper) (S : World → Prop) (K : Act → Prop) : List Nat → Act → Prop
  | [], a => K a
  | i :: r, a => ∃ o v, ops[i]? = some o ∧ YieldsT P ops S o v a ∧ PickT P ops S K r (a.put o.dst v)
theorem wpAnyT_pick {T : List Nat} {w : World} (hs : Region.noSelect ops = true) (hR : ∀ c (a : Act) d v w, Q (.panic c) (a.put d v) w → Q (.panic c) a w) (hL : ¬ LetsOut Q) (hS : S w) :
    ∀ (r : List Nat) (fuel : Nat) (listed : Array Bool) (a : Act), pickTB md ops T r listed = true → PickT P ops S (fun a2 => wpAnyT P md ops Q S T fuel (pickSet r listed) a2 w) r a → wpAnyT P md ops Q S T (fuel + r.length) listed a w
  | [], _, _, _, _, h => h
  | i :: r, fuel, listed, a, hB, h => by
    obtain ⟨o, v, ho, hy, hk⟩ := h
    simp only [pickTB, Bool.and_eq_true] at hB
    obtain ⟨⟨⟨h1, h2⟩, h3, h4, h5⟩, h6⟩ := hB
    refine wpAnyT_first ho (Region.noSelect_spec hs) (fun c a2 w2 => hR c a2 _ _ w2) hL (waits_of h3) (fun t ht => ?_) (fuel + r.length) listed a w (Region.free_spec ho h2) (fun u hu => ?_) (by simpa using h1) hy hS (wpAnyT_pick hs hR hL hS r fuel _ _ h6 hk)
    · have := List.all_eq_true.1 h4 t ht
      simpa using this
    · have := List.all_eq_true.1 h5 u hu
      simpa using this
theorem PickT.nil {K : Act → Prop} {a : Act} (h : K a) : PickT P ops S K [] a := h
theorem PickT.value {K : Act → Prop} {i : Nat} {r : List Nat} {a : Act} {o : Oper} {d : Option Tmp} (v : Value) (ho : ops[i]? = some o) (hd : o.dst = d) (hw : Region.wanted o (yielded ops a.tmps) = true)
    (hy : ∀ w, S w → (execOp a.eval o).run P w = .ok (.value v) w) (h : PickT P ops S K r (a.put d v)) : PickT P ops S K (i :: r) a := by
  subst hd
  exact ⟨o, v, ho, .inl ⟨hw, fun w hS => .inl (hy w hS)⟩, h⟩
theorem PickT.call {K : Act → Prop} {i : Nat} {r : List Nat} {a : Act} {o : Oper} {d : Option Tmp} (v : Value) (f : FuncId) (args : Array Value) (ho : ops[i]? = some o) (hd : o.dst = d) (hw : Region.wanted o (yielded ops a.tmps) = true)
    (hy : ∀ w, S w → (execOp a.eval o).run P w = .ok (.enter f args) w) (hc : ∀ w, S w → Calls P f args w (fun e w2 => e = .returned v ∧ w2 = w)) (h : PickT P ops S K r (a.put d v)) : PickT P ops S K (i :: r) a := by
  subst hd
  exact ⟨o, v, ho, .inl ⟨hw, fun w hS => .inr ⟨f, args, hy w hS, hc w hS⟩⟩, h⟩
theorem PickT.skip {K : Act → Prop} {i : Nat} {r : List Nat} {a : Act} {o : Oper} {d : Option Tmp} (ho : ops[i]? = some o) (hd : o.dst = d) (hw : Region.wanted o (yielded ops a.tmps) = false) (h : PickT P ops S K r (a.put d undef)) : PickT P ops S K (i :: r) a := by
  subst hd
  exact ⟨o, undef, ho, .inr ⟨hw, rfl⟩, h⟩
/-- the one that is left -/
theorem wpAnyT_one {T : List Nat} {i : Nat} {o : Oper} {fuel : Nat} {listed : Array Bool} {a : Act} {w : World} (hr : Region.ready md ops listed = [i]) (ho : ops[i]? = some o) (hw : Region.wanted o (yielded ops a.tmps) = true)
    (h : ∀ K : Act → World → Prop, (∀ a2 w2, (T.contains i = false → S w2) → wpAnyT P md ops Q S T fuel (listed.setIfInBounds i true) a2 w2 → K a2 w2) → o.wp P a w K Q) : wpAnyT P md ops Q S T (fuel + 1) listed a w := by
  refine ⟨fun h0 => (by rw [hr] at h0; cases h0), ?_⟩
  intro j hj
  rw [hr] at hj
  obtain rfl : j = i := by simpa using hj
  unfold wpOp
  simp only [ho, hw, if_true]
  exact .inl (h _ (fun a2 w2 hS hk => ⟨hS, hk⟩))
theorem wpAnyT_done {T : List Nat} {listed : Array Bool} {a : Act} {w : World} (hr : Region.ready md ops listed = []) (h : Q .normal a w) :
    ∀ fuel, wpAnyT P md ops Q S T fuel listed a w
  | 0 => ⟨hr, h⟩
  | _ + 1 => ⟨fun _ => h, by rw [hr]; simp⟩
theorem plain_T {id : Nat} {a : Act} {w : World} (S : World → Prop) (T : List Nat) (hm : P.follows .mixedOrders = true)
    (h : wpAnyT P .any ops (Only (Q .normal)) S T ops.size (Array.replicate ops.size false) a w.drew) : (Code.region id ops true).wp P Q a w :=
  Code.wp_mono Only.imp (wp_region_any hm (wpAny_of_T _ _ _ _ h))
theorem round_T {id l n : Nat} {a : Act} {w : World} (S : World → Prop) (T : List Nat) (hm : P.follows .mixedOrders = true) (hp : ops.all (fun o => Op.plainB o.op) = true)
    (h : wpAnyT P .any ops (Only (Q .normal)) S T ops.size (Array.replicate ops.size false) a w.drew) : (Code.region id ops true).wpIn (Fence.wide.inRound l) n P Q a w :=
  round_any hm hp (wpAny_of_T _ _ _ _ h)
/-- what is put, spelled out -/
theorem zx : (∀ (a : Act) (d : Nat) (v : Value), a.put (some d) v = { a with tmps := a.tmps.setIfInBounds d v }) ∧ (∀ (a : Act) (v : Value), a.put none v = a) ∧ (∀ (l : List Value) (i : Nat) (v : Value), l.toArray.setIfInBounds i v = (l.set i v).toArray) ∧ (∀ (x v : Value) (l : List Value), (x :: l).set 0 v = v :: l) ∧ (∀ (x v : Value) (l : List Value) (n : Nat), (x :: l).set (n + 1) v = x :: l.set n v) ∧ (∀ (P : Program) (ops : Array Oper) (S : World → Prop) (K : Act → Prop) (a : Act), PickT P ops S K [] a = K a) :=
  ⟨fun _ _ _ => rfl, fun _ _ => rfl, fun _ _ _ => List.setIfInBounds_toArray .., fun _ _ _ => rfl, fun _ _ _ _ => rfl, fun _ _ _ _ _ => rfl⟩
theorem zq {Q0 : Act → World → Prop} {T : List Nat} {w : World} {listed : Array Bool} {a : Act} (hS : S w) (r : List Nat) (fuel : Nat) (h : PickT P ops S (fun a2 => wpAnyT P md ops (Only Q0) S T fuel (pickSet r listed) a2 w) r a) (hs : Region.noSelect ops = true := by kernel_rfl) (hB : pickTB md ops T r listed = true := by kernel_rfl) : wpAnyT P md ops (Only Q0) S T (fuel + r.length) listed a w :=
  wpAnyT_pick hs Only.panic Only.keepsIn hS r fuel listed a hB h
theorem zp {K : Act → Prop} {i : Nat} {r : List Nat} {a : Act} {o : Oper} (d : Nat) (v : Value) (h : PickT P ops S K r (a.put (some d) v)) (ho : ops[i]? = some o := by rfl) (hd : o.dst = some d := by rfl) (hw : Region.wanted o (yielded ops a.tmps) = true := by kernel_rfl)
    (hy : ∀ w, S w → (execOp a.eval o).run P w = .ok (.value v) w := by intro U hU; go_simp) : PickT P ops S K (i :: r) a := PickT.value v ho hd hw hy h
theorem zk {K : Act → Prop} {i : Nat} {r : List Nat} {a : Act} {o : Oper} (d : Nat) (h : PickT P ops S K r (a.put (some d) undef)) (ho : ops[i]? = some o := by rfl) (hd : o.dst = some d := by rfl) (hw : Region.wanted o (yielded ops a.tmps) = false := by kernel_rfl) : PickT P ops S K (i :: r) a := PickT.skip ho hd hw h
theorem zo {T : List Nat} {o : Oper} {fuel : Nat} {listed : Array Bool} {a : Act} {w : World} (i : Nat) (h : ∀ K : Act → World → Prop, (∀ a2 w2, (T.contains i = false → S w2) → wpAnyT P md ops Q S T fuel (listed.setIfInBounds i true) a2 w2 → K a2 w2) → o.wp P a w K Q)
    (hr : Region.ready md ops listed = [i] := by kernel_rfl) (ho : ops[i]? = some o := by rfl) (hw : Region.wanted o (yielded ops a.tmps) = true := by kernel_rfl) : wpAnyT P md ops Q S T (fuel + 1) listed a w := wpAnyT_one hr ho hw h
end Go.Proofs.YtfibapfehgglhaaGreatDoor
/-
  Rows of cells; rows of the call's own; worlds in which blocks of other types stay as they were.
-/
namespace Go.Proofs.YtfibapfehgglhaaGreatDoor
open Go.RowKit
theorem addr_block (ad : Addr) (j : Nat) : (ad.add j).block = ad.block := by unfold Addr.add; split <;> rfl
/-- a slice: what its cells hold, so many to an element -/
def Row (k : Nat) (x : Nat → Nat → Value) (w : World) (A : Option Addr) (n : Nat) : Prop :=
  0 < n → ∃ ad, A = some ad ∧ ad.block < w.heap.size ∧ ∀ i, i < n → ∀ j, j < k → w.cell? (ad.add (i * k + j)) = some (x i j)
theorem Row.at_ {k : Nat} {x : Nat → Nat → Value} {w w2 : World} {A : Option Addr} {n : Nat} (h : Row k x w A n) (hb : Below w.heap.size w w2) {i : Nat} (hi : i < n) :
    ∃ ad, A = some ad ∧ (0 < k → w2.cell? (ad.add (i * k)) = some (x i 0)) ∧ ∀ j, j < k → 0 < j → w2.cell? ⟨(ad.add (i * k)).block, (ad.add (i * k)).off + j, none⟩ = some (x i j) := by
  obtain ⟨ad, e, hlt, hc⟩ := h (by omega)
  refine ⟨ad, e, fun hk => (hb.cell (by rw [addr_block]; exact hlt)).trans (hc i hi 0 hk), fun j hj h0 => ?_⟩
  obtain ⟨j, rfl⟩ : ∃ j', j = j' + 1 := ⟨j - 1, by omega⟩
  have e2 : (ad.add (i * k)).add (j + 1) = ⟨(ad.add (i * k)).block, (ad.add (i * k)).off + (j + 1), none⟩ := rfl
  rw [← e2, Go.Deep.add_add]
  exact (hb.cell (by rw [addr_block]; exact hlt)).trans (hc i hi _ hj)
theorem Row.later {k : Nat} {x : Nat → Nat → Value} {w w2 : World} {A : Option Addr} {n : Nat} (h : Row k x w A n) (hb : Below w.heap.size w w2) : Row k x w2 A n := fun hn => by
  obtain ⟨ad, e, hlt, hc⟩ := h hn
  exact ⟨ad, e, Nat.lt_of_lt_of_le hlt hb.size, fun i hi j hj => (hb.cell (by rw [addr_block]; exact hlt)).trans (hc i hi j hj)⟩
theorem only_mk {K : Act → World → Prop} {a : Act} {w : World} (h : K a w) : Only K .normal a w := h
theorem own_from {w : World} {base b2 : Nat} {e : TypeId} {size n : Nat} {v : Value} {xs : List Value} (h : w.ownsRow base e size v n xs) (hb : b2 ≤ base) : w.ownsRow b2 e size v n xs := by
  refine ⟨h.1, ?_⟩
  rcases h.2 with ⟨rfl, h2⟩ | ⟨g, cap, cur, rfl, hb2, rest⟩
  · exact .inl ⟨rfl, h2⟩
  · exact .inr ⟨g, cap, cur, rfl, by omega, rest⟩
/-- a row's cells -/
def rcells (k : Nat) (x : Nat → Nat → Value) (n : Nat) : List Value := (List.range n).flatMap fun i => (List.range k).map (x i)
theorem rcells_succ (k : Nat) (x : Nat → Nat → Value) (n : Nat) : rcells k x (n + 1) = rcells k x n ++ (List.range k).map (x n) := by
  unfold rcells
  rw [List.range_succ, List.flatMap_append]
  simp
theorem rcells_length (k : Nat) (x : Nat → Nat → Value) : ∀ n, (rcells k x n).length = n * k
  | 0 => by simp [rcells]
  | n + 1 => by rw [rcells_succ, List.length_append, rcells_length k x n, List.length_map, List.length_range, Nat.succ_mul]
theorem rcells_get (k : Nat) (x : Nat → Nat → Value) : ∀ n i j, i < n → j < k → (rcells k x n)[i * k + j]? = some (x i j)
  | n + 1, i, j, hi, hj => by
    rw [rcells_succ]
    by_cases h : i < n
    · have hlt : i * k + j < n * k := by
        have := Nat.mul_le_mul_right k (show i + 1 ≤ n from h)
        rw [Nat.succ_mul] at this
        omega
      rw [List.getElem?_append_left (by rw [rcells_length]; exact hlt)]
      exact rcells_get k x n i j h hj
    · obtain rfl : i = n := by omega
      rw [List.getElem?_append_right (by rw [rcells_length]; omega), rcells_length, Nat.add_sub_cancel_left]
      simp [hj]
theorem rcells_one {k : Nat} {x : Nat → Nat → Value} (hx : ∀ i j, (x i j).oneCell' = true) (n : Nat) : ∀ v ∈ rcells k x n, v.oneCell' = true := by
  intro v hv
  unfold rcells at hv
  obtain ⟨i, -, h⟩ := List.mem_flatMap.1 hv
  obtain ⟨j, -, rfl⟩ := List.mem_map.1 h
  exact hx i j
/-- a row's cells stand where it says -/
theorem Row.cells {k : Nat} {x : Nat → Nat → Value} {w : World} {ad : Addr} {n : Nat} (hk : 0 < k) (h : Row k x w (some ad) n) : ∀ j u, (rcells k x n)[j]? = some u → w.cell? (ad.add j) = some u := by
  intro j u hu
  have hj : j < n * k := by
    rcases Nat.lt_or_ge j (n * k) with h | h
    · exact h
    · rw [List.getElem?_eq_none (by rw [rcells_length]; exact h)] at hu; cases hu
  have hi : j / k < n := (Nat.div_lt_iff_lt_mul hk).2 hj
  obtain ⟨ad2, e, _, hc⟩ := h (Nat.lt_of_le_of_lt (Nat.zero_le _) hi)
  cases e
  have hg := rcells_get k x n (j / k) (j % k) hi (Nat.mod_lt _ hk)
  have hjj : j / k * k + j % k = j := by rw [Nat.mul_comm]; exact Nat.div_add_mod j k
  rw [hjj, hu] at hg
  have := hc (j / k) hi (j % k) (Nat.mod_lt _ hk)
  rw [hjj] at this
  rw [this]; exact hg.symm
/-- a row of the call's own, as a row -/
theorem own_row {w : World} {base e k n : Nat} {v : Value} {x : Nat → Nat → Value} (h : w.ownsRow base e k v n (rcells k x n)) : ∃ A c, v = .slice A n c ∧ n ≤ c ∧ c ≤ maxLen ∧ (A = none → n = 0 ∧ c = 0) ∧ Row k x w A n := by
  rcases h.2 with ⟨rfl, h0⟩ | ⟨g, cap, cur, rfl, hb, hg, hc, hm, _⟩
  · exact ⟨none, 0, by rw [h0], by omega, by unfold maxLen; omega, fun _ => ⟨h0, rfl⟩, fun hn => by omega⟩
  · refine ⟨some ⟨g, 0, none⟩, cap, rfl, hc, hm, (fun h => by cases h), fun _ => ⟨⟨g, 0, none⟩, rfl, (Array.getElem?_eq_some_iff.1 hg).1, fun i hi j hj => ?_⟩⟩
    have hlt : i * k + j < n * k := by
      have := Nat.mul_le_mul_right k (show i + 1 ≤ n from hi)
      rw [Nat.succ_mul] at this
      omega
    rw [Addr.add_lit, Nat.zero_add, World.ownsRow.cellAt h _ hlt]
    exact rcells_get k x n i j hi hj
/-- a row of the call's own where nothing of it was written -/
theorem row_kept {W W2 : World} {base e k n : Nat} {v : Value} {xs : List Value} {row : Option Nat} (h : W.ownsRow base e k v n xs) (hg : W.grownBy W2 row) (hr : ∀ r, row = some r → v.ownBlock ≠ some r) : W2.ownsRow base e k v n xs := by
  refine ⟨h.1, ?_⟩
  rcases h.2 with h0 | ⟨g, cap, cur, rfl, hb, hc, hx⟩
  · exact Or.inl h0
  · refine Or.inr ⟨g, cap, cur, rfl, hb, (hg.block g (Array.getElem?_eq_some_iff.1 hc).1 (fun e1 => ?_)).trans hc, hx⟩
    exact hr g e1.symm rfl
theorem row_far {W W2 : World} {base e k n : Nat} {v : Value} {xs : List Value} (h : W.ownsRow base e k v n xs) (hb : Below W.heap.size W W2) : W2.ownsRow base e k v n xs := row_kept h (grown_of_below (row := none) hb) (fun r e => by cases e)
/-- two rows of two types lie apart -/
theorem row_apart {W : World} {b1 b2 e1 e2 k1 k2 n1 n2 : Nat} {v1 v2 : Value} {x1 x2 : List Value} (h1 : W.ownsRow b1 e1 k1 v1 n1 x1) (h2 : W.ownsRow b2 e2 k2 v2 n2 x2) (hne : e1 ≠ e2) {r : Nat} (hr : v2.ownBlock = some r) : v1.ownBlock ≠ some r := by
  intro h
  rcases h1.2 with ⟨rfl, -⟩ | ⟨g1, c1, cur1, rfl, -, hc1, -⟩
  · cases h
  · rcases h2.2 with ⟨rfl, -⟩ | ⟨g2, c2, cur2, rfl, -, hc2, -⟩
    · cases hr
    · have a : some g1 = some r := h
      have b : some g2 = some r := hr
      cases a
      cases b
      rw [hc1] at hc2
      cases hc2
      exact hne rfl
/-- blocks of other types, and all else, stay as they were -/
def Keeps (Ts : List TypeId) (W W2 : World) : Prop := ∀ (g : Nat) (o : Obj), W.heap[g]? = some o → (∀ cs T fr, o = Obj.cells cs T fr → T ∉ Ts) → W2.heap[g]? = some o
theorem Keeps.refl (Ts : List TypeId) (W : World) : Keeps Ts W W := fun _ _ h _ => h
theorem Keeps.trans {Ts : List TypeId} {W W2 W3 : World} (h : Keeps Ts W W2) (h2 : Keeps Ts W2 W3) : Keeps Ts W W3 := fun g o ho hn => h2 g o (h g o ho hn) hn
theorem Keeps.mono {Ts Us : List TypeId} {W W2 : World} (h : Keeps Ts W W2) (hs : ∀ T ∈ Ts, T ∈ Us) : Keeps Us W W2 := fun g o ho hn => h g o ho (fun cs T fr e hT => hn cs T fr e (hs T hT))
theorem Keeps.below {Ts : List TypeId} {W W2 : World} (hb : Below W.heap.size W W2) : Keeps Ts W W2 := fun _ _ h _ => heap_keep h hb
theorem Keeps.grown {Ts : List TypeId} {W W2 : World} {g : Nat} {cs : Array Value} {T : TypeId} {fr : Nat × Nat} (hc : W.heap[g]? = some (.cells cs T fr)) (hT : T ∈ Ts) (hg : W.grownBy W2 (some g)) : Keeps Ts W W2 := fun j o ho hn => by
  refine (hg.block j (Array.getElem?_eq_some_iff.1 ho).1 (fun e => ?_)).trans ho
  cases e
  rw [hc] at ho
  cases ho
  exact hn _ _ _ rfl hT
theorem Keeps.own {Ts : List TypeId} {W W2 : World} {base e k n : Nat} {v : Value} {xs : List Value} (ho : W.ownsRow base e k v n xs) (he : e ∈ Ts) (hg : W.grownBy W2 v.ownBlock) : Keeps Ts W W2 := by
  rcases ho.2 with ⟨rfl, -⟩ | ⟨g, cap, cur, rfl, -, hc, -⟩
  · exact fun j o ho _ => (hg.block j (Array.getElem?_eq_some_iff.1 ho).1 (fun e => by cases e)).trans ho
  · exact Keeps.grown hc he hg
theorem row_keeps {Ts : List TypeId} {W W2 : World} {base e k n : Nat} {v : Value} {xs : List Value} (h : W.ownsRow base e k v n xs) (hk : Keeps Ts W W2) (he : e ∉ Ts) : W2.ownsRow base e k v n xs := by
  refine ⟨h.1, ?_⟩
  rcases h.2 with h0 | ⟨g, cap, cur, rfl, hb, hc, hx⟩
  · exact Or.inl h0
  · exact Or.inr ⟨g, cap, cur, rfl, hb, hk _ _ hc (fun cs T fr e => by cases e; exact he), hx⟩
/-- a row behind a row of the call's own: one operation -/
theorem wp_append_row {o : Oper} {a : Act} {K : Act → World → Prop} {Q : Exit → Act → World → Prop} (w : World) (s y : Operand) (T E : TypeId)
    (ho : o.op = .call { callee := .builtin .append, args := #[s, y], argTypes := #[T, T] })
    (k by_ : Nat) (z : Value) (ht : Tryz.prog.underlying T = some (.slice E)) (hinfo : (Tryz.prog.info? E).map (fun i => (i.zero, i.size, i.bytes)) = some (some z, k, by_)) (hzs : z.cells.size = k) (hk : 0 < k) (hby : by_ ≤ 1000)
    (base : Nat) (v : Value) (n0 : Nat) (xs : List Value) (hs : a.eval s = v) (hown : w.ownsRow base E k v n0 xs)
    (ad : Addr) (n c : Nat) (x : Nat → Nat → Value) (hx1 : ∀ i j, (x i j).oneCell' = true) (hy : a.eval y = .slice (some ad) n c) (hA : Row k x w (some ad) n) (hsz : n0 + n ≤ 1000000) (hbase : base ≤ w.heap.size)
    (h : ∀ v' w', w'.ownsRow base E k v' (n0 + n) (xs ++ rcells k x n) → w.grownBy w' v.ownBlock → (v' = .slice none 0 0 ↔ v = .slice none 0 0 ∧ n = 0) → K (a.put o.dst v') w') : o.wp Tryz.prog a w K Q := by
  obtain ⟨i0, hi0, hz0, hz1, hz2⟩ := info_parts hinfo
  have hb2 : (n0 + n) * by_ ≤ 1000000 * 1000 := Nat.mul_le_mul hsz hby
  exact wp_append_own w s y T ho base E i0 z k by_ ht hi0 hz0 hz1 hz2 hzs hk v n0 xs hs hown ad n c (rcells k x n) hy (rcells_length k x n) (hA.cells hk) (rcells_one hx1 n) (by unfold maxLen; omega) (by omega) hbase (fun v' w' h1 h2 h3 => h v' w' h1 h2 h3)
theorem row_built (k : Nat) (x : Nat → Nat → Value) (W : World) (cs : Array Value) (T : TypeId) (hc : ∀ j, j < k → cs[j]? = some (x 0 j)) : Row k x (W.alloc (.cells cs T)) (some ⟨W.heap.size, 0, none⟩) 1 := fun _ => ⟨⟨W.heap.size, 0, none⟩, rfl, by simp, fun i hi j hj => by
  obtain rfl : i = 0 := by omega
  rw [Addr.add_lit, Nat.zero_mul, Nat.zero_add, Nat.zero_add]
  exact cell_of_row _ _ _ _ _ _ (by rw [heap_alloc_new W _]) |>.trans (by simpa using hc j hj)⟩
theorem row_there (k : Nat) (x : Nat → Nat → Value) (W : World) (vb : Nat) (cs : Array Value) (T : TypeId) (fr : Nat × Nat) (h : W.heap[vb]? = some (.cells cs T fr)) (hc : ∀ j, j < k → cs[j]? = some (x 0 j)) : Row k x W (some ⟨vb, 0, none⟩) 1 := fun _ => ⟨⟨vb, 0, none⟩, rfl, (Array.getElem?_eq_some_iff.1 h).1, fun i hi j hj => by
  obtain rfl : i = 0 := by omega
  rw [Addr.add_lit, Nat.zero_mul, Nat.zero_add, Nat.zero_add]
  exact (cell_of_row _ _ _ _ _ _ h).trans (by simpa using hc j hj)⟩
theorem block_other {W : World} {b1 e k m g : Nat} {u : Value} {xs : List Value} {cs : Array Value} {T : TypeId} {fr : Nat × Nat} (ho : W.ownsRow b1 e k u m xs) (hc : W.heap[g]? = some (.cells cs T fr)) (hne : T ≠ e) : u.ownBlock ≠ some g := by
  intro e2
  rcases ho.2 with ⟨rfl, -⟩ | ⟨g1, c1, cur1, rfl, -, hc1, -⟩
  · cases e2
  · have a : some g1 = some g := e2
    cases a
    rw [hc] at hc1
    cases hc1
    exact hne rfl
theorem own_lit {W : World} {base e k n : Nat} {A : Option Addr} {c : Nat} {xs : List Value} (h : W.ownsRow base e k (.slice A n c) n xs) (hn : 0 < n) : ∃ g, A = some ⟨g, 0, none⟩ := by
  rcases h.2 with ⟨e, h0⟩ | ⟨g, c1, cur, e, -⟩
  · omega
  · cases e; exact ⟨g, rfl⟩
end Go.Proofs.YtfibapfehgglhaaGreatDoor
