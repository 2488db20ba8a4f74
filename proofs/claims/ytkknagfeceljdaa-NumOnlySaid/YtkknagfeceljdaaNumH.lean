/-
  Steps of a region that draws its order, one by one.
-/
import Derived.Test.YtkknagfeceljdaaNumO
namespace Go.Proofs.Ytkknagfeceljdaa
open Go.RowKit
theorem region_held_gen {P : Program} {ops : Array Oper} {Q : Exit → Act → World → Prop} {S : World → Prop} {id : Nat} {a : Act} {w : World} (hm : P.follows .mixedOrders = true)
    (h : ∀ R : Exit → Act → World → Prop, (∀ c (a : Act) d v w, R (.panic c) (a.put d v) w → R (.panic c) a w) → (∀ a w, Q .normal a w → R .normal a w) → wpAnyH P .any ops R S ops.size (Array.replicate ops.size false) a w.drew) : (Code.region id ops true).wp P Q a w :=
  wp_region_noPanic (wp_region_held hm (h (NoPanic Q) (fun _ _ _ _ _ h => h) (fun _ _ h => NoPanic.normal h)))
theorem takeH_at {P : Program} {md : Region.Mode} {ops : Array Oper} {R : Exit → Act → World → Prop} {S : World → Prop} {i : Nat} {oi : Oper} {d : Option Tmp} {v : Value} {fuel : Nat} {listed : Array Bool} {a : Act} {w : World} (hi : ops[i]? = some oi) (hd : oi.dst = d)
    (hs : Region.noSelect ops = true) (hf : Region.free md ops listed i = true) (hr : (Region.ready md ops listed).contains i = true)
    (hR : ∀ c (a : Act) d v w, R (.panic c) (a.put d v) w → R (.panic c) a w) (hw : Region.wanted oi (yielded ops a.tmps) = true) (hv : ∀ w, S w → (execOp a.eval oi).run P w = .ok (.value v) w) (hS : S w)
    (h : wpAnyH P md ops R S fuel (listed.setIfInBounds i true) (a.put d v) w) : wpAnyH P md ops R S (fuel + 1) listed a w := by
  subst hd
  exact wpAnyH_take hi hs hf hr (fun c a w h => hR c a _ _ w h) (Or.inl ⟨hw, hv⟩) hS h
theorem takeU_at {P : Program} {md : Region.Mode} {ops : Array Oper} {R : Exit → Act → World → Prop} {S : World → Prop} {i : Nat} {oi : Oper} {d : Option Tmp} {fuel : Nat} {listed : Array Bool} {a : Act} {w : World} (hi : ops[i]? = some oi) (hd : oi.dst = d)
    (hs : Region.noSelect ops = true) (hf : Region.free md ops listed i = true) (hr : (Region.ready md ops listed).contains i = true)
    (hR : ∀ c (a : Act) d v w, R (.panic c) (a.put d v) w → R (.panic c) a w) (hw : Region.wanted oi (yielded ops a.tmps) = false) (hS : S w)
    (h : wpAnyH P md ops R S fuel (listed.setIfInBounds i true) (a.put d undef) w) : wpAnyH P md ops R S (fuel + 1) listed a w := by
  subst hd
  exact wpAnyH_take hi hs hf hr (fun c a w h => hR c a _ _ w h) (Or.inr ⟨hw, rfl⟩) hS h
theorem eql_yes {P : Program} (w : World) (s : ByteArray) (m : Sem Next) (h : m.run P w = .ok (.value (.bool (s.toList == s.toList))) w) : m.run P w = .ok (.value (.bool true)) w := by
  rw [h, beq_self_eq_true]
theorem str_yes {P : Program} (w : World) (x s : ByteArray) (e : x = s) (m : Sem Next) (h : m.run P w = .ok (.value (.string x)) w) : m.run P w = .ok (.value (.string s)) w := by
  subst e; exact h
theorem leq_yes {P : Program} (w : World) (a b : Int) (hab : a ≤ b) (m : Sem Next) (h : m.run P w = .ok (.value (.bool (decide (a ≤ b)))) w) : m.run P w = .ok (.value (.bool true)) w := by
  rw [h, decide_eq_true hab]

end Go.Proofs.Ytkknagfeceljdaa
