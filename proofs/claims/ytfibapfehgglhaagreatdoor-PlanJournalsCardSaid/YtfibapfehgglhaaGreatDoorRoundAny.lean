import Derived.Test.YtfibapfehgglhaaGreatDoorFrM
import Derived.Deep.DeepMust
import Derived.StillTail
import Derived.OrdersIn
import Derived.OrdersHeld
import Derived.RangeFuncCalls
/-
  What the functions of package frame come to: Put, mayGoOn, Head.
-/
namespace Go.Proofs.YtfibapfehgglhaaGreatDoor
open Go.RowKit

set_option maxRecDepth 100000 in
set_option maxHeartbeats 400000 in
theorem TextW_any (s : ByteArray) (hs : s.size ≤ 281474976710656) (w : World) :
    Calls Tryz.prog 158 #[.string s] w fun e w' => e = .returned (.string (Fr.txt s)) ∧ Below w.heap.size w w' := by
  have hw := Num.wrap_small s.size (by omega)
  have hz : (Num.smallB s.size).size ≤ 10 := Num.enc_length_le 9 _
  have HZ := Lib.hid hz; clear hz
  have HS := Lib.hid hs; clear hs
  go_enter Tryz.func158, Tryz.ntmps158
  go_wp2_with fail
  refine (Small_any s.size (Lib.hid (by have := HS.out; omega)) _).mono ?_; rintro e w1 ⟨rfl, hb⟩
  have HB := Lib.hid hb; clear hb
  have hs := HS.out
  have hz := HZ.out
  have hsum : ¬ 9223372036854775807 < (Num.smallB s.size).size + s.size := by omega
  go_wp2_with fail
  go_ret
  exact ⟨rfl, HB.out⟩

set_option maxRecDepth 100000 in
set_option maxHeartbeats 400000 in
theorem Put_any (s : ByteArray) (hs : s.size ≤ 281474976710656) (w : World) :
    Calls Tryz.prog 106 #[.string s] w fun e w' => e = .returned (.string (Fr.put s)) ∧ Below w.heap.size w w' := by
  have hz : (Fr.txt s).size ≤ 10 + s.size := by rw [Fr.txt_size]; have := Fr.small_le s.size; omega
  have HZ := Lib.hid hz; clear hz
  go_enter Tryz.func106, Tryz.ntmps106
  go_wp2_with fail
  refine (TextW_any s hs _).mono ?_; rintro e w1 ⟨rfl, hb⟩
  have HB := Lib.hid hb; clear hb
  have hz := HZ.out
  have htl : (Fr.txt s).size ≤ maxLen := by unfold maxLen; omega
  have HTL := Lib.hid htl; clear htl
  have h4 := Crc.four_size (Crc.ofB (Fr.txt s))
  have hput : Fr.txt s ++ Crc.four (Crc.ofB (Fr.txt s)) = Fr.put s := rfl
  generalize hT : Fr.txt s = t at *
  have HP := Lib.hid hput; clear hput hT
  go_wp2_with fail
  refine (Tail_any t HTL.out _).mono ?_; rintro e w2 ⟨rfl, hb2⟩
  have HB2 := Lib.hid (below_step HB.out hb2); clear hb2
  generalize Crc.four (Crc.ofB t) = c at *
  have hsum : ¬ 9223372036854775807 < t.size + c.size := by omega
  have H4 := Lib.hid h4; clear h4
  go_wp2_with fail
  go_ret
  exact ⟨by rw [HP.out]; rfl, HB2.out⟩

set_option maxRecDepth 100000 in
set_option maxHeartbeats 400000 in
theorem mayGoOn_any (s : ByteArray) (hs : s.size ≤ maxLen) (w : World) :
    Calls Tryz.prog 111 #[.string s] w fun e w' => e = .returned (.bool (Fr.mayGo s)) ∧ w = w' := by
  unfold maxLen at hs
  have hall : Fr.mayGo s = (s.data.toList.all (fun b => decide (128 ≤ b.toNat)) && decide (s.size < 10)) := rfl
  generalize Fr.mayGo s = g at *
  have HG := Lib.hid hall; clear hall
  go_enter Tryz.func111, Tryz.ntmps111
  go_wp2_with fail
  go_loop [6] (fun i => ∃ k : Nat, k ≤ s.size ∧ i = .int .i64 k ∧ (s.data.toList.take k).all (fun b => decide (128 ≤ b.toNat)) = true) (fun i => s.size - (intOf i).toNat)
  case atStart => exact ⟨0, by omega, rfl, rfl⟩
  case round =>
    obtain ⟨k, hk, rfl, ha⟩ := hrel
    have HA := Lib.hid ha; clear ha
    by_cases hlt : k < s.size
    · have hsn := Crc.take_snoc s k hlt
      have HSN := Lib.hid hsn; clear hsn
      have hb := s[k].toNat_lt
      by_cases h128 : s[k].toNat < 128
      · have HC := Lib.hid h128
        go_wp2_with fail
        go_ret
        refine ⟨?_, rfl⟩
        rw [HG.out]
        have hsp : s.data.toList = s.data.toList.take (k + 1) ++ s.data.toList.drop (k + 1) := (List.take_append_drop _ _).symm
        have : s.data.toList.all (fun b => decide (128 ≤ b.toNat)) = false := by
          rw [hsp, HSN.out]
          have := HC.out
          simp only [List.all_append, List.all_cons, List.all_nil]
          rw [show decide (128 ≤ s[k].toNat) = false from by simp; omega]
          simp
        rw [this]; rfl
      · have HC := Lib.hid h128
        go_wp2_with fail
        go_round
        case rel =>
          refine ⟨k + 1, by omega, by go_num, ?_⟩
          rw [HSN.out]
          have := HC.out
          simp only [List.all_append, List.all_cons, List.all_nil, HA.out]
          rw [show decide (128 ≤ s[k].toNat) = true from by simp; omega]
          rfl
        case measure => simp [intOf]; omega
    · have hE : s.data.toList.all (fun b => decide (128 ≤ b.toNat)) = true := by
        have := HA.out
        rwa [List.take_of_length_le (by simp; omega)] at this
      have HE := Lib.hid hE; clear hE
      go_wp2_with fail
      go_ret
      refine ⟨?_, rfl⟩
      rw [HG.out, HE.out]
      simp; omega
end Go.Proofs.YtfibapfehgglhaaGreatDoor
/-
  A region that draws its order, in a round: what holds of it outside a round holds there too, where it defers nothing. Over any program.
-/
namespace Go.Proofs.YtfibapfehgglhaaGreatDoor
open Go.RowKit

def Op.plainB : Op → Bool
  | .defer _ => false
  | _ => true
variable {P : Program} {ops : Array Oper} {Q : Exit → Act → World → Prop} {l n : Nat}

theorem rows_wide {row : String} {args : Array Value} {w : World} {R : Value → World → Prop} (h : Rows P row args w R) : RowsIn (Fence.wide.inRound l) n P row args w R := fun c cs _ => by
  obtain ⟨v, w2, hR, hs⟩ := h c cs
  exact ⟨v, w2, hR, stepsIn_wide.2 hs⟩
theorem upon_round {o : Oper} {a : Act} {K : Act → World → Prop} {r : Result Next} (h : o.upon P a K Q r) : o.uponIn (Fence.wide.inRound l) n P a K Q r := by
  cases r with
  | ok x w =>
    cases x <;> simp only [Oper.upon] at h <;> simp only [Oper.uponIn]
    case enter f args => exact ⟨fun hd => (by cases hd), (callsIn_wide (n := n - 1)).2 h⟩
    case row row args => exact ⟨fun hd => (by cases hd), rows_wide h⟩
    all_goals exact h
  | halt x w => cases x <;> simp only [Oper.upon] at h <;> simp only [Oper.uponIn] <;> exact h
theorem wpOp_round (hq : ¬ LetsOut Q) (hp : ops.all (fun o => Op.plainB o.op) = true) {i : Nat} {K : Act → World → Prop} {a : Act} {w : World} (h : wpOp P ops Q i K a w) : wpOpIn (Fence.wide.inRound l) n P ops Q i K a w := by
  unfold wpOp at h
  unfold wpOpIn
  split
  · rename_i ho; simp only [ho] at h; exact h
  · rename_i o ho
    simp only [ho] at h
    have hpl : Op.plainB o.op = true := by
      have := Array.all_eq_true'.1 hp o (Array.mem_of_getElem? ho)
      exact this
    split
    · rename_i hw
      simp only [hw, if_true] at h
      rcases h with h | h
      · refine ⟨fun _ _ => trivial, ?_⟩
        rw [Oper.semAt_eq _ _ _ (fun c hc => by rw [hc] at hpl; cases hpl)]
        exact upon_round h
      · exact absurd h.2 hq
    · rename_i hw; simp only [hw] at h; exact ⟨fun _ _ => trivial, h⟩
theorem wpAny_round (hq : ¬ LetsOut Q) (hp : ops.all (fun o => Op.plainB o.op) = true) {md : Region.Mode} : ∀ (fuel : Nat) (listed : Array Bool) (a : Act) (w : World), wpAny P md ops Q fuel listed a w → wpAnyIn (Fence.wide.inRound l) n P md ops Q fuel listed a w
  | 0, _, _, _, h => h
  | fuel + 1, _, _, _, h => ⟨h.1, fun i hi => wpOpIn_mono (fun a2 w2 h2 => wpAny_round hq hp fuel _ a2 w2 h2) (wpOp_round hq hp (h.2 i hi))⟩

/-- it ends, and nothing else -/
def Only (K : Act → World → Prop) : Exit → Act → World → Prop
  | .normal, a, w => K a w
  | _, _, _ => False
theorem Only.imp {Q : Exit → Act → World → Prop} : ∀ (e : Exit) (a : Act) (w : World), Only (Q .normal) e a w → Q e a w
  | .normal, _, _, h => h
  | .ret, _, _, h => h.elim
  | .exit _, _, _, h => h.elim
  | .goto _, _, _, h => h.elim
  | .panic _, _, _, h => h.elim
  | .outgrown, _, _, h => h.elim
theorem Only.next {K : Act → World → Prop} {Q : Exit → Act → World → Prop} {a : Act} {w : World} (h : K a w) : Only (Exit.then K Q .normal) .normal a w := h
theorem Only.panic {K : Act → World → Prop} : ∀ c (a : Act) d v w, Only K (.panic c) (a.put d v) w → Only K (.panic c) a w := fun _ _ _ _ _ h => h
theorem Only.keepsIn {K : Act → World → Prop} : ¬ LetsOut (Only K) := fun ⟨_, _, h⟩ => h
/-- a region in a round, whatever order is drawn -/
theorem round_any {id : Nat} {a : Act} {w : World} (hm : P.follows .mixedOrders = true) (hp : ops.all (fun o => Op.plainB o.op) = true)
    (h : wpAny P .any ops (Only (Q .normal)) ops.size (Array.replicate ops.size false) a w.drew) : (Code.region id ops true).wpIn (Fence.wide.inRound l) n P Q a w :=
  wpIn_mono (wpIn_region_any hm (wpAny_round Only.keepsIn hp _ _ _ _ h)) Only.imp
theorem round_held {id : Nat} {a : Act} {w : World} (S : World → Prop) (hm : P.follows .mixedOrders = true) (hp : ops.all (fun o => Op.plainB o.op) = true)
    (h : wpAnyH P .any ops (Only (Q .normal)) S ops.size (Array.replicate ops.size false) a w.drew) : (Code.region id ops true).wpIn (Fence.wide.inRound l) n P Q a w :=
  round_any hm hp (wpAny_of_held _ _ _ _ h)
theorem plain_held {id : Nat} {a : Act} {w : World} (S : World → Prop) (hm : P.follows .mixedOrders = true)
    (h : wpAnyH P .any ops (Only (Q .normal)) S ops.size (Array.replicate ops.size false) a w.drew) : (Code.region id ops true).wp P Q a w :=
  Code.wp_mono Only.imp (wp_region_held hm h)

/-- reads and quiet calls ahead of operations of one order, in a round -/
theorem round_still_tail {id : Nat} {ol : List Oper} {a : Act} {w : World} (k : Nat) (hm : P.follows .mixedOrders = true) (hB : Region.lexTailB .any ol.toArray k = true) (hp : ol.toArray.all (fun o => Op.plainB o.op) = true)
    (h : wpStill P ol.toArray w.drew (fun a2 => wpList P ol.toArray (Only (Q .normal)) (ol.drop k) a2 w.drew) (ol.take k) a) : (Code.region id ol.toArray true).wpIn (Fence.wide.inRound l) n P Q a w := by
  refine round_any hm hp ?_
  simp only [Region.lexTailB, Bool.and_eq_true, decide_eq_true_eq] at hB
  obtain ⟨⟨⟨⟨b1, b2⟩, b3⟩, b4⟩, b5⟩ := hB
  have z : ol.toArray.size = ol.length := by simp
  have zt : (ol.take k).length = k := by simp; omega
  have zd : (ol.drop k).length = ol.toArray.size - k := by simp
  have none0 : HeadInv .any ol.toArray k (Array.replicate ol.toArray.size false) := by
    refine ⟨by simp, ?_, ?_⟩
    · intro j oj _ hl; rw [getD_replicate_false] at hl; cases hl
    · intro t _ ht; exact getD_in (by simpa using ht) (getD_replicate_false _ _)
  have head := wpAnyL_lex (md := .any) (g := ol.toArray.size - k) b1 b3 b4 b2 (ol.take k) 0 _ a (fun j hj => by simp [show j < k from by omega]) (by omega) none0 (by rw [zt]; exact b5) h
  have all := wpAny_of_head (Q' := Only (Q .normal)) (g := ol.toArray.size - k) (fun listed a2 hL => by
    have t := wpAny_of_seq (md := .any) (Q' := Only (Q .normal)) (ol.drop k) k listed a2 w.drew (fun j => by simp [List.getElem?_drop]) (by rw [zd]; exact hL.1) hL.2
    rwa [zd] at t) _ _ _ head
  rwa [zt, show k + (ol.toArray.size - k) = ol.toArray.size from by omega] at all

/-- the same, outside a round -/
theorem plain_still_tail {id : Nat} {ol : List Oper} {a : Act} {w : World} (k : Nat) (hm : P.follows .mixedOrders = true) (hB : Region.lexTailB .any ol.toArray k = true)
    (h : wpStill P ol.toArray w.drew (fun a2 => wpList P ol.toArray Q (ol.drop k) a2 w.drew) (ol.take k) a) : (Code.region id ol.toArray true).wp P Q a w :=
  wp_region_still_tail k hm hB h

/-- operations of a region, in an order in which each may come up, and may be taken first -/
def pickB (md : Region.Mode) (ops : Array Oper) : List Nat → Array Bool → Bool
  | [], _ => true
  | i :: r, listed => (Region.ready md ops listed).contains i && Region.free md ops listed i && pickB md ops r (listed.setIfInBounds i true)
def pickSet : List Nat → Array Bool → Array Bool
  | [], listed => listed
  | i :: r, listed => pickSet r (listed.setIfInBounds i true)
/-- each yields a value in every world that meets S -/
def PickOk (P : Program) (ops : Array Oper) (S : World → Prop) (K : Act → Prop) : List Nat → Act → Prop
  | [], a => K a
  | i :: r, a => ∃ o v, ops[i]? = some o ∧ YieldsIf P ops S o v a ∧ PickOk P ops S K r (a.put o.dst v)
theorem wpAnyH_pick {md : Region.Mode} {S : World → Prop} {w : World} (hs : Region.noSelect ops = true) (hR : ∀ c (a : Act) d v w, Q (.panic c) (a.put d v) w → Q (.panic c) a w) (hS : S w) :
    ∀ (r : List Nat) (fuel : Nat) (listed : Array Bool) (a : Act), pickB md ops r listed = true → PickOk P ops S (fun a2 => wpAnyH P md ops Q S fuel (pickSet r listed) a2 w) r a → wpAnyH P md ops Q S (fuel + r.length) listed a w
  | [], _, _, _, _, h => h
  | i :: r, fuel, listed, a, hB, h => by
    obtain ⟨o, v, ho, hy, hk⟩ := h
    simp only [pickB, Bool.and_eq_true] at hB
    exact wpAnyH_take ho hs hB.1.2 hB.1.1 (fun c a2 w2 => hR c a2 _ _ w2) hy hS (wpAnyH_pick hs hR hS r fuel _ _ hB.2 hk)
theorem PickOk.value {S : World → Prop} {K : Act → Prop} {i : Nat} {r : List Nat} {a : Act} {o : Oper} {d : Option Tmp} {v : Value} (ho : ops[i]? = some o) (hd : o.dst = d) (hw : Region.wanted o (yielded ops a.tmps) = true)
    (hy : ∀ w, S w → (execOp a.eval o).run P w = .ok (.value v) w) (h : PickOk P ops S K r (a.put d v)) : PickOk P ops S K (i :: r) a := by
  subst hd
  exact ⟨o, v, ho, .inl ⟨hw, hy⟩, h⟩
/-- the one that is left -/
theorem wpAnyH_one {md : Region.Mode} {S : World → Prop} {i : Nat} {o : Oper} {fuel : Nat} {listed : Array Bool} {a : Act} {w : World} (hr : Region.ready md ops listed = [i]) (ho : ops[i]? = some o) (hw : Region.wanted o (yielded ops a.tmps) = true)
    (h : ∀ K : Act → World → Prop, (∀ a2 w2, S w2 → (S w2 → wpAnyH P md ops Q S fuel (listed.setIfInBounds i true) a2 w2) → K a2 w2) → o.wp P a w K Q) : wpAnyH P md ops Q S (fuel + 1) listed a w := by
  refine wpAnyH_all hr (by simp) ?_
  intro j hj
  obtain rfl : j = i := by simpa using hj
  unfold wpOp
  simp only [ho, hw, if_true]
  exact .inl (h _ (fun a2 w2 hS hk => ⟨hS, hk hS⟩))
/-- two that are left -/
theorem wpAnyH_two {md : Region.Mode} {S : World → Prop} {i j : Nat} {o1 o2 : Oper} {fuel : Nat} {listed : Array Bool} {a : Act} {w : World} (hr : Region.ready md ops listed = [i, j]) (h1 : ops[i]? = some o1) (h2 : ops[j]? = some o2)
    (hw1 : Region.wanted o1 (yielded ops a.tmps) = true) (hw2 : Region.wanted o2 (yielded ops a.tmps) = true)
    (g1 : ∀ K : Act → World → Prop, (∀ a2 w2, S w2 → (S w2 → wpAnyH P md ops Q S fuel (listed.setIfInBounds i true) a2 w2) → K a2 w2) → o1.wp P a w K Q)
    (g2 : ∀ K : Act → World → Prop, (∀ a2 w2, S w2 → (S w2 → wpAnyH P md ops Q S fuel (listed.setIfInBounds j true) a2 w2) → K a2 w2) → o2.wp P a w K Q) : wpAnyH P md ops Q S (fuel + 1) listed a w := by
  refine wpAnyH_all hr (by simp) ?_
  intro k hk
  simp only [List.mem_cons, List.not_mem_nil, or_false] at hk
  unfold wpOp
  rcases hk with rfl | rfl
  · simp only [h1, hw1, if_true]
    exact .inl (g1 _ (fun a2 w2 hS hk => ⟨hS, hk hS⟩))
  · simp only [h2, hw2, if_true]
    exact .inl (g2 _ (fun a2 w2 hS hk => ⟨hS, hk hS⟩))

/-! quiet calls, too, may be taken first -/
/-- it yields a value, or calls what yields it and leaves the world alone, in every world that meets S -/
def YieldsQ (P : Program) (ops : Array Oper) (S : World → Prop) (o : Oper) (v : Value) (a : Act) : Prop :=
  Region.wanted o (yielded ops a.tmps) = true ∧ ∀ w, S w → (execOp a.eval o).run P w = .ok (.value v) w ∨
    ∃ f args, (execOp a.eval o).run P w = .ok (.enter f args) w ∧ Calls P f args w (fun e w2 => e = .returned v ∧ w2 = w)
theorem YieldsQ.same {S : World → Prop} {o : Oper} {v : Value} {a a2 : Act} (h : YieldsQ P ops S o v a) (he : execOp a2.eval o = execOp a.eval o) (hw : Region.wanted o (yielded ops a2.tmps) = Region.wanted o (yielded ops a.tmps)) : YieldsQ P ops S o v a2 := by
  unfold YieldsQ at *
  rw [he, hw]; exact h
theorem YieldsQ.wpOp {S : World → Prop} {i : Nat} {o : Oper} {v : Value} {a : Act} (hi : ops[i]? = some o) (h : YieldsQ P ops S o v a) {K : Act → World → Prop} {w : World} (hS : S w) (hK : K (a.put o.dst v) w) : wpOp P ops Q i K a w := by
  unfold Go.wpOp
  simp only [hi, h.1, if_true]
  refine .inl ?_
  unfold Oper.wp
  rcases h.2 w hS with hr | ⟨f, args, hr, hc⟩
  · rw [hr]; exact hK
  · rw [hr]
    refine hc.mono ?_
    rintro e w2 ⟨rfl, rfl⟩
    exact hK
theorem wpOp_putQ {S : World → Prop} {j : Nat} {oi oj : Oper} {v : Value} (hj : ops[j]? = some oj) (hap : oi.apart ops oj = true) (hsi : ∀ cs b, oi.op ≠ .select cs b) (hsj : ∀ cs b, oj.op ≠ .select cs b)
    (hQ : ∀ c a w, Q (.panic c) (a.put oi.dst v) w → Q (.panic c) a w) (hL : ¬ LetsOut Q) {K : Act → World → Prop} {a : Act} {w : World} (hy : YieldsQ P ops S oi v a) (h : wpOp P ops Q j K (a.put oi.dst v) w) :
    wpOp P ops Q j (fun a2 w2 => YieldsQ P ops S oi v a2 ∧ K (a2.put oi.dst v) w2) a w := by
  obtain ⟨h1, h2, h3⟩ := Oper.apart_spec hap
  have stays : ∀ (b : Act), YieldsQ P ops S oi v b → ∀ u, YieldsQ P ops S oi v (b.put oj.dst u) := fun b hb u => hb.same (execOp_put oi hsi b oj.dst u h3) (wanted_put oi b oj.dst u h3)
  have swap : ∀ (b : Act) (u : Value) (w2 : World), K ((b.put oi.dst v).put oj.dst u) w2 → K ((b.put oj.dst u).put oi.dst v) w2 := fun b u w2 hk => by rw [← Act.put_comm b v u h2]; exact hk
  unfold wpOp at h ⊢
  simp only [hj] at h ⊢
  rw [wanted_put oj a oi.dst v h1] at h
  by_cases hw : Region.wanted oj (yielded ops a.tmps) = true
  · simp only [hw, if_true] at h ⊢
    refine .inl ?_
    rcases h with h | h
    · unfold Oper.wp at h ⊢
      rw [execOp_put oj hsj a oi.dst v h1] at h
      cases hr : (execOp a.eval oj).run P w with
      | ok n w2 =>
        rw [hr] at h
        cases n <;> simp only [Oper.upon] at h ⊢
        case value u => exact ⟨stays a hy u, swap a u w2 h⟩
        case skip => exact ⟨stays a hy _, swap a _ w2 h⟩
        case defer d =>
          refine ⟨stays { a with defers := d :: a.defers } (hy.same rfl rfl) _, ?_⟩
          rw [← Act.put_comm _ v undef h2, ← Act.put_defers]
          exact h
        case enter f args =>
          refine Calls.mono h ?_
          intro e w3 he
          cases e with
          | returned u => exact ⟨stays a hy u, swap a u w3 he⟩
          | panicked c => exact hQ _ _ _ he
          | outgrown => exact he
        case row row args => exact Rows.mono h fun u w3 he => ⟨stays a hy u, swap a u w3 he⟩
      | halt x w2 =>
        rw [hr] at h
        cases x <;> simp only [Oper.upon] at h ⊢
        case panic u => exact hQ _ _ _ h
    · exact absurd h.2 hL
  · simp only [hw] at h ⊢
    exact ⟨stays a hy _, swap a _ w h⟩
theorem wpAnyH_firstQ {md : Region.Mode} {S : World → Prop} {i : Nat} {oi : Oper} {v : Value} (hi : ops[i]? = some oi) (hsel : ∀ (j : Nat) (o : Oper) cs b, ops[j]? = some o → o.op ≠ .select cs b)
    (hQ : ∀ c a w, Q (.panic c) (a.put oi.dst v) w → Q (.panic c) a w) (hL : ¬ LetsOut Q) :
    ∀ (fuel : Nat) (listed : Array Bool) (a : Act) (w : World),
      (∀ j oj, ops[j]? = some oj → j ≠ i → listed.getD j true = false → (∀ e ∈ oj.after, Region.binds md e = true → e.on ≠ i) → oi.apart ops oj = true) →
      i ∈ Region.ready md ops listed → YieldsQ P ops S oi v a → S w →
      wpAnyH P md ops Q S fuel (listed.setIfInBounds i true) (a.put oi.dst v) w → wpAnyH P md ops Q S (fuel + 1) listed a w := by
  intro fuel
  induction fuel with
  | zero =>
    intro listed a w _ hr hy hS H
    refine ⟨fun h => (by rw [h] at hr; cases hr), fun j hj => ?_⟩
    by_cases hji : j = i
    · subst hji; exact hy.wpOp hi hS ⟨hS, H⟩
    · have := ready_mono hj hji
      rw [H.1] at this
      cases this
  | succ fuel ih =>
    intro listed a w hfree hr hy hS H
    refine ⟨fun h => (by rw [h] at hr; cases hr), fun j hj => ?_⟩
    by_cases hji : j = i
    · subst hji; exact hy.wpOp hi hS ⟨hS, H⟩
    · have step := H.2 j (ready_mono hj hji)
      obtain ⟨hun, oj, hoj, hall⟩ := mem_ready.1 hj
      have waits : ∀ e ∈ oj.after, Region.binds md e = true → e.on ≠ i := fun e he hb heq => by
        have k1 := hall e he hb
        have k0 := (mem_ready.1 hr).1
        rw [heq] at k1
        rw [getD_both k0] at k1
        cases k1
      have swapped := wpOp_putQ hoj (hfree j oj hoj hji hun waits) (fun cs b => hsel i oi cs b hi) (fun cs b => hsel j oj cs b hoj) hQ hL hy step
      refine wpOp_mono (fun a2 w2 h3 => ⟨h3.2.1, ih (listed.setIfInBounds j true) a2 w2 ?_ (ready_mono hr (Ne.symm hji)) h3.1 h3.2.1 ?_⟩) swapped
      · intro k ok hk hki hunk hno
        refine hfree k ok hk hki ?_ hno
        by_cases hjk : j = k
        · subst hjk; exact hun
        · rw [getD_set_ne true hjk] at hunk; exact hunk
      · rw [Array.setIfInBounds_comm _ _ hji]
        exact h3.2.2
/-- each yields a value, or calls quietly, in every world that meets S -/
def PickQ (P : Program) (ops : Array Oper) (S : World → Prop) (K : Act → Prop) : List Nat → Act → Prop
  | [], a => K a
  | i :: r, a => ∃ o v, ops[i]? = some o ∧ YieldsQ P ops S o v a ∧ PickQ P ops S K r (a.put o.dst v)
theorem wpAnyH_pickQ {md : Region.Mode} {S : World → Prop} {w : World} (hs : Region.noSelect ops = true) (hR : ∀ c (a : Act) d v w, Q (.panic c) (a.put d v) w → Q (.panic c) a w) (hL : ¬ LetsOut Q) (hS : S w) :
    ∀ (r : List Nat) (fuel : Nat) (listed : Array Bool) (a : Act), pickB md ops r listed = true → PickQ P ops S (fun a2 => wpAnyH P md ops Q S fuel (pickSet r listed) a2 w) r a → wpAnyH P md ops Q S (fuel + r.length) listed a w
  | [], _, _, _, _, h => h
  | i :: r, fuel, listed, a, hB, h => by
    obtain ⟨o, v, ho, hy, hk⟩ := h
    simp only [pickB, Bool.and_eq_true] at hB
    exact wpAnyH_firstQ ho (Region.noSelect_spec hs) (fun c a2 w2 => hR c a2 _ _ w2) hL (fuel + r.length) listed a w (Region.free_spec ho hB.1.2) (by simpa using hB.1.1) hy hS (wpAnyH_pickQ hs hR hL hS r fuel _ _ hB.2 hk)
theorem PickQ.value {S : World → Prop} {K : Act → Prop} {i : Nat} {r : List Nat} {a : Act} {o : Oper} {d : Option Tmp} (v : Value) (ho : ops[i]? = some o) (hd : o.dst = d) (hw : Region.wanted o (yielded ops a.tmps) = true)
    (hy : ∀ w, S w → (execOp a.eval o).run P w = .ok (.value v) w) (h : PickQ P ops S K r (a.put d v)) : PickQ P ops S K (i :: r) a := by
  subst hd
  exact ⟨o, v, ho, ⟨hw, fun w hS => .inl (hy w hS)⟩, h⟩
theorem PickQ.call {S : World → Prop} {K : Act → Prop} {i : Nat} {r : List Nat} {a : Act} {o : Oper} {d : Option Tmp} (v : Value) (f : FuncId) (args : Array Value) (ho : ops[i]? = some o) (hd : o.dst = d) (hw : Region.wanted o (yielded ops a.tmps) = true)
    (hy : ∀ w, S w → (execOp a.eval o).run P w = .ok (.enter f args) w) (hc : ∀ w, S w → Calls P f args w (fun e w2 => e = .returned v ∧ w2 = w)) (h : PickQ P ops S K r (a.put d v)) : PickQ P ops S K (i :: r) a := by
  subst hd
  exact ⟨o, v, ho, ⟨hw, fun w hS => .inr ⟨f, args, hy w hS, hc w hS⟩⟩, h⟩
end Go.Proofs.YtfibapfehgglhaaGreatDoor
