/-
  A region that makes blocks of its own beside a call.
-/
import Derived.Test.YtidfanmfibbiiaaTrHa
namespace Go.Proofs.Ytidfanmfibbiiaa
open Go.RowKit
section
variable {P : Program} {ops : Array Oper} {Q : Exit → Act → World → Prop} {md : Region.Mode} {S : World → Prop}
def puts (a : Act) : List (Option Tmp × Value) → Act
  | [] => a
  | (d, v) :: r => puts (a.put d v) r
theorem plain_T_cut {id : Nat} {a : Act} {w : World} (S : World → Prop) (T : List Nat) (R : Act → Act → World → Prop) (hm : P.follows .mixedOrders = true)
    (h : wpAnyT P .any ops (Only (R a)) S T ops.size (Array.replicate ops.size false) a w.drew) (hR : ∀ a2 w2, R a a2 w2 → Q .normal a2 w2) : (Code.region id ops true).wp P Q a w :=
  Code.wp_mono (Q := Only (R a)) (fun e a2 w2 he => by cases e <;> first | exact hR _ _ he | exact he.elim) (plain_T (Q := Only (R a)) S T hm h)
/-- two that are left, in either order -/
theorem wpAnyT_two {T : List Nat} {i j : Nat} {oi oj : Oper} {fuel : Nat} {listed : Array Bool} {a : Act} {w : World} (hr : Region.ready md ops listed = [i, j]) (hi : ops[i]? = some oi) (hj : ops[j]? = some oj) (hwi : Region.wanted oi (yielded ops a.tmps) = true) (hwj : Region.wanted oj (yielded ops a.tmps) = true)
    (h1 : ∀ K : Act → World → Prop, (∀ a2 w2, (T.contains i = false → S w2) → wpAnyT P md ops Q S T fuel (listed.setIfInBounds i true) a2 w2 → K a2 w2) → oi.wp P a w K Q)
    (h2 : ∀ K : Act → World → Prop, (∀ a2 w2, (T.contains j = false → S w2) → wpAnyT P md ops Q S T fuel (listed.setIfInBounds j true) a2 w2 → K a2 w2) → oj.wp P a w K Q) : wpAnyT P md ops Q S T (fuel + 1) listed a w := by
  refine ⟨fun h0 => (by rw [hr] at h0; cases h0), ?_⟩
  intro k hk
  rw [hr] at hk
  rcases (show k = i ∨ k = j by simpa using hk) with rfl | rfl
  · unfold wpOp
    simp only [hi, hwi, if_true]
    exact .inl (h1 _ (fun a2 w2 hS hk => ⟨hS, hk⟩))
  · unfold wpOp
    simp only [hj, hwj, if_true]
    exact .inl (h2 _ (fun a2 w2 hS hk => ⟨hS, hk⟩))
theorem wpAnyT_three {T : List Nat} {i j l : Nat} {oi oj ol : Oper} {fuel : Nat} {listed : Array Bool} {a : Act} {w : World} (hr : Region.ready md ops listed = [i, j, l]) (hi : ops[i]? = some oi) (hj : ops[j]? = some oj) (hl : ops[l]? = some ol)
    (hwi : Region.wanted oi (yielded ops a.tmps) = true) (hwj : Region.wanted oj (yielded ops a.tmps) = true) (hwl : Region.wanted ol (yielded ops a.tmps) = true)
    (h1 : ∀ K : Act → World → Prop, (∀ a2 w2, (T.contains i = false → S w2) → wpAnyT P md ops Q S T fuel (listed.setIfInBounds i true) a2 w2 → K a2 w2) → oi.wp P a w K Q)
    (h2 : ∀ K : Act → World → Prop, (∀ a2 w2, (T.contains j = false → S w2) → wpAnyT P md ops Q S T fuel (listed.setIfInBounds j true) a2 w2 → K a2 w2) → oj.wp P a w K Q)
    (h3 : ∀ K : Act → World → Prop, (∀ a2 w2, (T.contains l = false → S w2) → wpAnyT P md ops Q S T fuel (listed.setIfInBounds l true) a2 w2 → K a2 w2) → ol.wp P a w K Q) : wpAnyT P md ops Q S T (fuel + 1) listed a w := by
  refine ⟨fun h0 => (by rw [hr] at h0; cases h0), ?_⟩
  intro k hk
  rw [hr] at hk
  rcases (show k = i ∨ k = j ∨ k = l by simpa using hk) with rfl | rfl | rfl
  · unfold wpOp
    simp only [hi, hwi, if_true]
    exact .inl (h1 _ (fun a2 w2 hS hk => ⟨hS, hk⟩))
  · unfold wpOp
    simp only [hj, hwj, if_true]
    exact .inl (h2 _ (fun a2 w2 hS hk => ⟨hS, hk⟩))
  · unfold wpOp
    simp only [hl, hwl, if_true]
    exact .inl (h3 _ (fun a2 w2 hS hk => ⟨hS, hk⟩))
end
/-- what such a region leaves untouched -/
structure KB (D : World → Prop) : Prop where
  far : ∀ U V, D U → Below U.heap.size U V → D V
  keep : ∀ U V, D U → Keeps [28, 31] U V → D V
theorem KB.none_ : KB (fun _ => True) := ⟨fun _ _ _ _ => trivial, fun _ _ _ _ => trivial⟩
/-- a block for the state and one for the answer, as far as they are made -/
structure RG (wr : World) (x1 x2 : Option (Nat × Array Value)) (D : World → Prop) (U : World) : Prop where
  bel : Below wr.heap.size wr U
  z1 : ∀ p c, x1 = some (p, c) → wr.heap.size ≤ p ∧ U.heap[p]? = some (.cells c 28 (0, 0))
  z2 : ∀ p c, x2 = some (p, c) → wr.heap.size ≤ p ∧ U.heap[p]? = some (.cells c 31 (0, 0))
  d : D U
theorem RG.begin {wr U : World} (h : Below wr.heap.size wr U) : RG wr none none (fun _ => True) U := ⟨h, fun p c e => (by cases e), fun p c e => (by cases e), trivial⟩
theorem RG.alloc1 {wr U : World} {x2 : Option (Nat × Array Value)} {D : World → Prop} (h : RG wr none x2 D U) (hk : KB D) : RG wr (some (U.heap.size, #[.slice none 0 0, .int .i64 0])) x2 D (U.alloc (.cells #[.slice none 0 0, .int .i64 0] 28)) := by
  have hb : Below U.heap.size U (U.alloc (.cells #[.slice none 0 0, .int .i64 0] 28)) := (Below.refl _ _).alloc (Nat.le_refl _) _
  refine ⟨below_step h.bel hb, ?_, fun p c e => ⟨(h.z2 p c e).1, heap_keep (h.z2 p c e).2 hb⟩, hk.far _ _ h.d hb⟩
  intro p c e
  cases e
  exact ⟨h.bel.size, heap_alloc_new U _⟩
theorem RG.alloc2 {wr U : World} {x1 : Option (Nat × Array Value)} {D : World → Prop} (h : RG wr x1 none D U) (hk : KB D) : RG wr x1 (some (U.heap.size, #[.int .i64 0, .int .i64 0, .slice none 0 0])) D (U.alloc (.cells #[.int .i64 0, .int .i64 0, .slice none 0 0] 31)) := by
  have hb : Below U.heap.size U (U.alloc (.cells #[.int .i64 0, .int .i64 0, .slice none 0 0] 31)) := (Below.refl _ _).alloc (Nat.le_refl _) _
  refine ⟨below_step h.bel hb, fun p c e => ⟨(h.z1 p c e).1, heap_keep (h.z1 p c e).2 hb⟩, ?_, hk.far _ _ h.d hb⟩
  intro p c e
  cases e
  exact ⟨h.bel.size, heap_alloc_new U _⟩
theorem RG.call {wr U V : World} {x1 x2 : Option (Nat × Array Value)} {D D2 : World → Prop} (h : RG wr x1 x2 D U) (hb : Below U.heap.size U V) (hd : D2 V) : RG wr x1 x2 D2 V :=
  ⟨below_step h.bel hb, fun p c e => ⟨(h.z1 p c e).1, heap_keep (h.z1 p c e).2 hb⟩, fun p c e => ⟨(h.z2 p c e).1, heap_keep (h.z2 p c e).2 hb⟩, hd⟩
theorem answer_laid {W8 : World} {r2 : Nat} {x0 x1 x2 : Value} (h2 : W8.heap[r2]? = some (.cells #[x0, x1, x2] 31 (0, 0))) (a b1 c : Value) :
    (((W8.setCell ⟨r2, 0, none⟩ a).setCell ⟨r2, 1, none⟩ b1).setCell ⟨r2, 2, none⟩ c).heap[r2]? = some (.cells #[a, b1, c] 31 (0, 0)) ∧
    Keeps [31] W8 (((W8.setCell ⟨r2, 0, none⟩ a).setCell ⟨r2, 1, none⟩ b1).setCell ⟨r2, 2, none⟩ c) ∧
    ∀ (w : World), w.heap.size ≤ r2 → Below w.heap.size w W8 → Below w.heap.size w (((W8.setCell ⟨r2, 0, none⟩ a).setCell ⟨r2, 1, none⟩ b1).setCell ⟨r2, 2, none⟩ c) := by
  have g1 := grown_trans (grown_trans (grown_setCell W8 r2 0 a) (grown_setCell _ r2 1 b1)) (grown_setCell _ r2 2 c)
  have k2 := heap_setCell_same _ r2 2 _ _ c (heap_setCell_same _ r2 1 _ _ b1 (heap_setCell_same _ r2 0 _ _ a h2))
  exact ⟨k2.trans rfl, Keeps.grown h2 (by simp) g1, fun w ha hbel => hbel.grown g1 hbel.size (fun r e => by cases e; exact ha)⟩
theorem RG.store1 {wr U : World} {p : Nat} {a0 b0 : Value} {x2 : Option (Nat × Array Value)} {D : World → Prop} (h : RG wr (some (p, #[a0, b0])) x2 D U) (hk : KB D) (a b : Value) : RG wr (some (p, #[a, b])) x2 D ((U.setCell ⟨p, 0, none⟩ a).setCell ⟨p, 1, none⟩ b) := by
  obtain ⟨hp, hc⟩ := h.z1 p _ rfl
  obtain ⟨k1, k2, k3⟩ := state_laid hc a b
  refine ⟨k3 wr hp h.bel, ?_, fun p2 c e => ⟨(h.z2 p2 c e).1, k2 _ _ (h.z2 p2 c e).2 (fun cs T fr e2 => by cases e2; decide)⟩, hk.keep _ _ h.d (k2.mono (by decide))⟩
  intro p2 c e
  cases e
  exact ⟨hp, k1⟩
theorem RG.store2 {wr U : World} {p : Nat} {a0 b0 c0 : Value} {x1 : Option (Nat × Array Value)} {D : World → Prop} (h : RG wr x1 (some (p, #[a0, b0, c0])) D U) (hk : KB D) (a b c : Value) : RG wr x1 (some (p, #[a, b, c])) D (((U.setCell ⟨p, 0, none⟩ a).setCell ⟨p, 1, none⟩ b).setCell ⟨p, 2, none⟩ c) := by
  obtain ⟨hp, hc⟩ := h.z2 p _ rfl
  obtain ⟨k1, k2, k3⟩ := answer_laid hc a b c
  refine ⟨k3 wr hp h.bel, fun p2 c e => ⟨(h.z1 p2 c e).1, k2 _ _ (h.z1 p2 c e).2 (fun cs T fr e2 => by cases e2; decide)⟩, ?_, hk.keep _ _ h.d (k2.mono (by decide))⟩
  intro p2 c e
  cases e
  exact ⟨hp, k1⟩
/-- what Do left beside its answer -/
def DW (lo : Nat) (A : Option Addr) (n c : Nat) (q : Nat → SerAt) (C : Option Addr) (k f : Nat) (rr : Nat → RecAt) (U : World) : Prop := WorkRows U lo (.slice A n c) n q ∧ OwnRecs U lo (.slice C k f) k rr
theorem DW.kb (lo : Nat) (A : Option Addr) (n c : Nat) (q : Nat → SerAt) (C : Option Addr) (k f : Nat) (rr : Nat → RecAt) : KB (DW lo A n c q C k f rr) :=
  ⟨fun U V h hb => ⟨h.1.keeps (Keeps.below hb (Ts := [])) (by simp) (by simp) (by simp), h.2.keeps (Keeps.below hb (Ts := [])) (by simp) (by simp)⟩, fun U V h hk => ⟨h.1.keeps hk (by decide) (by decide) (by decide), h.2.keeps hk (by decide) (by decide)⟩⟩
end Go.Proofs.Ytidfanmfibbiiaa
