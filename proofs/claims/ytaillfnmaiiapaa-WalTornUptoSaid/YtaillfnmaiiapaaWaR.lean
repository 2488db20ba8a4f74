/-
  A cursor's calls, told by the mathematics; what they leave.
-/
import Derived.Test.YtaillfnmaiiapaaWaO
import Derived.Test.YtaillfnmaiiapaaNumG
namespace Go.Proofs.Ytaillfnmaiiapaa
open Go.RowKit
theorem cuSmall (b : Nat) (c : Wa.Cu) (hs : c.s.size ≤ maxLen) (w : World) (hc : CurAt b c.s c.bad w) :
    Calls Try.prog 87 #[.pointer (some ⟨b, 0, none⟩)] w fun e w' => e = .returned (.int .u64 ((c.small.1 : Nat) : Int)) ∧ CurAt b c.small.2.s c.small.2.bad w' ∧ w.grownBy w' (some b) :=
  curSmall b c.s hs c.bad w hc
theorem cuWide (b : Nat) (c : Wa.Cu) (hs : c.s.size ≤ maxLen) (w : World) (hc : CurAt b c.s c.bad w) :
    Calls Try.prog 69 #[.pointer (some ⟨b, 0, none⟩)] w fun e w' => e = .returned (.int .u64 ((c.wide.1 : Nat) : Int)) ∧ CurAt b c.wide.2.s c.wide.2.bad w' ∧ w.grownBy w' (some b) :=
  curWide b c.s hs c.bad w hc
theorem cuText (b : Nat) (c : Wa.Cu) (hs : c.s.size ≤ maxLen) (m : Int) (hm : Hid (-9223372036854775808 ≤ m ∧ m ≤ 9223372036854775807)) (w : World) (hc : CurAt b c.s c.bad w) :
    Calls Try.prog 97 #[.pointer (some ⟨b, 0, none⟩), .int .i64 m] w fun e w' => e = .returned (.string (c.text m).1) ∧ CurAt b (c.text m).2.s (c.text m).2.bad w' ∧ w.grownBy w' (some b) :=
  curText b c.s hs c.bad m hm w hc
theorem cuTake (b : Nat) (c : Wa.Cu) (hs : c.s.size ≤ maxLen) (m : Int) (w : World) (hc : CurAt b c.s c.bad w) :
    Calls Try.prog 68 #[.pointer (some ⟨b, 0, none⟩), .int .i64 m] w fun e w' => e = .returned (.string (c.take m).1) ∧ CurAt b (c.take m).2.s (c.take m).2.bad w' ∧ w.grownBy w' (some b) :=
  curTake b c.s hs c.bad m w hc
theorem cuFixed12 (b : Nat) (c : Wa.Cu) (hs : c.s.size ≤ maxLen) (w : World) (hc : CurAt b c.s c.bad w) :
    Calls Try.prog 70 #[.pointer (some ⟨b, 0, none⟩), .int .i64 12] w fun e w' => e = .returned (.string (c.fixed 12).1) ∧ CurAt b (c.fixed 12).2.s (c.fixed 12).2.bad w' ∧ w.grownBy w' (some b) :=
  curFixed b c.s hs c.bad 12 w hc
theorem cuDone (b : Nat) (c : Wa.Cu) (w : World) (hc : CurAt b c.s c.bad w) :
    Calls Try.prog 88 #[.pointer (some ⟨b, 0, none⟩)] w fun e w' => e = .returned (.bool (c.s.toList.isEmpty && !c.bad)) ∧ Below w.heap.size w w' :=
  curDone b c.s c.bad w hc
/-- all but what was told, and cursors, stays -/
def RKeeps (mb : Nat) (w w2 : World) : Prop := ∀ (g : Nat) (o : Obj), w.heap[g]? = some o → g ≠ mb → (∀ cs T fr, o = Obj.cells cs T fr → T ≠ 78 ∧ T ≠ 9 ∧ T ≠ 131) → w2.heap[g]? = some o
theorem RKeeps.refl (mb : Nat) (w : World) : RKeeps mb w w := fun _ _ h _ _ => h
theorem RKeeps.trans {mb : Nat} {w w2 w3 : World} (h : RKeeps mb w w2) (h2 : RKeeps mb w2 w3) : RKeeps mb w w3 := fun g o ho hm hn => h2 g o (h g o ho hm hn) hm hn
theorem RKeeps.below {mb : Nat} {w w2 : World} (h : Below w.heap.size w w2) : RKeeps mb w w2 := fun _ _ ho _ _ => heap_keep ho h
theorem RKeeps.names {mb : Nat} {w w2 : World} (h : NKeeps mb w w2) : RKeeps mb w w2 := fun g o ho hm hn => h g o ho hm fun cs T fr e => ⟨(hn cs T fr e).1, (hn cs T fr e).2.1⟩
theorem RKeeps.cur {mb cb : Nat} {s : ByteArray} {bad : Bool} {w w2 : World} (hc : CurAt cb s bad w) (hg : w.grownBy w2 (some cb)) : RKeeps mb w w2 := fun g o ho _ hn =>
  (hg.block g (Array.getElem?_eq_some_iff.1 ho).1 (fun e => by
    obtain rfl : g = cb := Option.some.inj e
    unfold CurAt at hc
    rw [hc] at ho
    exact (hn _ _ _ (Option.some.inj ho).symm).2.2 rfl)).trans ho
/-- a cursor's call leaves what was told -/
theorem NamesIn.cur {w w2 : World} {base nb mb cb : Nat} {v : Value} {K : List ByteArray} {s : ByteArray} {bad : Bool} (h : NamesIn w base nb mb v K) (hc : CurAt cb s bad w) (hg : w.grownBy w2 (some cb)) : NamesIn w2 base nb mb v K := by
  unfold CurAt at hc
  refine ⟨(hg.block nb (Array.getElem?_eq_some_iff.1 h.cells).1 (fun e => ?_)).trans h.cells, row_kept h.keys hg (fun r e => ?_), h.map.kept hg (fun e => ?_), h.nlo, h.mlo⟩
  · obtain rfl : nb = cb := Option.some.inj e
    rw [h.cells] at hc
    cases hc
  · obtain rfl : cb = r := Option.some.inj e
    exact own_not h.keys hc (fun cs fr e => by cases e)
  · obtain rfl : mb = cb := Option.some.inj e
    obtain ⟨es, clock, hb, -⟩ := h.map
    rw [hb] at hc
    cases hc
/-- what is told leaves a cursor -/
theorem NKeeps.cur {mb cb : Nat} {s : ByteArray} {bad : Bool} {w w2 : World} (h : NKeeps mb w w2) (hc : CurAt cb s bad w) (hne : cb ≠ mb) : CurAt cb s bad w2 := by
  unfold CurAt at hc ⊢
  exact h cb _ hc hne (fun cs T fr e => by cases e; exact ⟨by decide, by decide⟩)
theorem NamesIn.cne {w : World} {base nb mb cb : Nat} {v : Value} {K : List ByteArray} {s : ByteArray} {bad : Bool} (h : NamesIn w base nb mb v K) (hc : CurAt cb s bad w) : cb ≠ mb := by
  rintro rfl
  unfold CurAt at hc
  obtain ⟨es, clock, hb, -⟩ := h.map
  rw [hb] at hc
  cases hc
end Go.Proofs.Ytaillfnmaiiapaa
