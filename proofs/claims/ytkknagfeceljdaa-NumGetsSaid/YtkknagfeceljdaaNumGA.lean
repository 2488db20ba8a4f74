/-
  The cursor's Done, which only reads; a slice of asks that comes in.
-/
import Derived.Test.YtkknagfeceljdaaNumXF
import Derived.Test.YtkknagfeceljdaaNumL
import Derived.Deep.SlicePairs
import Derived.ChangeSame
namespace Go.Proofs.Ytkknagfeceljdaa
open Go.RowKit

set_option maxHeartbeats 400000 in
theorem curDone_same (b : Nat) (s : ByteArray) (bad : Bool) (w : World) (hc : CurAt b s bad w) (d : Bool) (hd : d = (s.toList.isEmpty && !bad)) :
    Calls Try.prog 33 #[.pointer (some ⟨b, 0, none⟩)] w fun e w' => e = .returned (.bool d) ∧ w' = w := by
  obtain ⟨c0, c1, f0, f1⟩ := hc.cells
  subst hd
  clear hc
  go_enter Try.func33, Try.ntmps33
  go_wp2
  all_goals (go_ret; refine ⟨?_, rfl⟩; simp [*])

/-- a slice of structs of two integers that came in: what its cells hold -/
def PairRow (w : World) (A : Option Addr) (n : Nat) (k0 k1 : IntKind) (f : Nat → Int × Int) : Prop :=
  0 < n → ∃ ad, A = some ad ∧ ad.block < w.heap.size ∧ ∀ i, i < n → w.cell? (ad.add (i * 2)) = some (.int k0 (f i).1) ∧ w.cell? (ad.add (i * 2 + 1)) = some (.int k1 (f i).2) ∧ (Lit.int k0 (f i).1).wf = true ∧ (Lit.int k1 (f i).2).wf = true
theorem PairRow.at_ {w w2 : World} {A : Option Addr} {n : Nat} {k0 k1 : IntKind} {f : Nat → Int × Int} (h : PairRow w A n k0 k1 f) (hb : Below w.heap.size w w2) {i : Nat} (hi : i < n) :
    ∃ ad, A = some ad ∧ w2.cell? (ad.add (i * 2)) = some (.int k0 (f i).1) ∧ w2.cell? (ad.add (i * 2 + 1)) = some (.int k1 (f i).2) ∧ (Lit.int k0 (f i).1).wf = true ∧ (Lit.int k1 (f i).2).wf = true := by
  obtain ⟨ad, e, hlt, hc⟩ := h (by omega)
  obtain ⟨h0, h1, h2, h3⟩ := hc i hi
  have hbl : ∀ j, (ad.add j).block = ad.block := fun j => by unfold Addr.add; split <;> rfl
  exact ⟨ad, e, (hb.cell (by rw [hbl]; exact hlt)).trans h0, (hb.cell (by rw [hbl]; exact hlt)).trans h1, h2, h3⟩

theorem wf_of_trod_int {H : Type} {enc : TypeId × Value → H} {P : Program} {w : World} {base n : Nat} {spare : Nat → Bool} {held : Bool} {t : TypeId} {k : IntKind} {v : Value} {x : DataW H × List MemPlace}
    (ht : P.underlying t = some (.int k)) (h : DataW.trod enc P w base spare held n t [v] = some x) : ∃ z, v = .int k z ∧ (Lit.int k z).wf = true := by
  obtain ⟨z, hz, _, hw⟩ := DataW.trod_int ht h
  exact ⟨z, by simpa using hz, hw⟩
theorem PairRow.more {w w2 : World} {ad : Addr} {n : Nat} {k0 k1 : IntKind} {f : Nat → Int × Int} (h : PairRow w (some ad) n k0 k1 f) (hb : Below w.heap.size w w2) {i : Nat} (hi : i < n) :
    w2.cell? (ad.add (i * 2)) = some (.int k0 (f i).1) ∧ w2.cell? ⟨(ad.add (i * 2)).block, (ad.add (i * 2)).off + 1, none⟩ = some (.int k1 (f i).2) := by
  obtain ⟨ad', e, h0, h1, _⟩ := h.at_ hb hi
  cases e
  refine ⟨h0, ?_⟩
  have e2 : (ad.add (i * 2)).add 1 = ⟨(ad.add (i * 2)).block, (ad.add (i * 2)).off + 1, none⟩ := rfl
  rw [← e2, Go.Deep.add_add]; exact h1

open Go.ChangeShapes Go.WideShapes Go.Deep in
theorem open_pairs {H : Type} {enc : TypeId × Value → H} {P : Program} {w : World} {r : Reach} {b0 : Nat} {spare : Nat → Bool} {held : Bool} {t e : TypeId} {k0 k1 : IntKind} {f0 f1 : Field} {v : Value} {d : DataW H} {p : List MemPlace}
    (ht : P.underlying t = some (.slice e)) (he : P.underlying e = some (.struct #[f0, f1])) (h0 : P.underlying f0.type = some (.int k0)) (h1 : P.underlying f1.type = some (.int k1)) (c0 : P.cellsOf f0.type = 1) (c1 : P.cellsOf f1.type = 1) (o0 : f0.offset = 0) (o1 : f1.offset = 1) (hC : P.cellsOf e = 2)
    (hv : Value.okWide P w r b0 t v) (h : DataW.Trod enc P w 0 spare held t v d p) :
    ∃ (A : Option Addr) (n c : Nat) (f : Nat → Int × Int), v = .slice A n c ∧ n ≤ maxLen ∧ PairRow w A n k0 k1 f := by
  obtain ⟨A, n, c, rfl⟩ := okWide_slice ht hv
  obtain ⟨fuel, hf⟩ := h
  rcases open_slice_pairs ht he hC o0 o1 c0 c1 hf with ⟨hcs, _⟩ | ⟨a, len, cap, m, n', V0, V1, D0, D1, P0, P1, hcs, _, hl, hm, hmm, _, hi⟩
  · simp [Value.cells] at hcs
    obtain ⟨rfl, rfl, rfl⟩ := hcs
    exact ⟨none, 0, 0, fun _ => (0, 0), rfl, by simp, fun h => absurd h (by omega)⟩
  · simp [Value.cells] at hcs
    obtain ⟨rfl, rfl, rfl⟩ := hcs
    have hlm : n ≤ m := by rw [hmm]; split <;> omega
    have each : ∀ i, i < m → ∃ q : Int × Int, V0 i = .int k0 q.1 ∧ V1 i = .int k1 q.2 ∧ (Lit.int k0 q.1).wf = true ∧ (Lit.int k1 q.2).wf = true := fun i him => by
      obtain ⟨_, _, g0, g1⟩ := hi i him
      obtain ⟨z0, e0, w0⟩ := wf_of_trod_int h0 g0
      obtain ⟨z1, e1, w1⟩ := wf_of_trod_int h1 g1
      exact ⟨(z0, z1), e0, e1, w0, w1⟩
    obtain ⟨q, hq⟩ := choose_lt each
    refine ⟨some a, n, c, q, rfl, by omega, fun hn => ⟨a, rfl, ?_, fun i hin => ?_⟩⟩
    · have := block_lt_of_cell (hi 0 (by omega)).1
      have hbl : (a.add (0 * 2)).block = a.block := by unfold Addr.add; split <;> rfl
      rwa [hbl] at this
    · obtain ⟨g0, g1, _, _⟩ := hi i (by omega)
      obtain ⟨q0, q1, q2, q3⟩ := hq i (by omega)
      rw [q0] at g0; rw [q1] at g1
      exact ⟨g0, g1, q2, q3⟩

/-- a call of the cursor, and the reference's: the same number -/
def BothNum (F G : Nat) (b : Nat) (s : ByteArray) (bad : Bool) : Prop :=
  ∃ (V M : Nat) (Q R : ByteArray) (o : Bool), Q.size ≤ 300 ∧ Hid (M = if o = true then V else 0) ∧ Hid (R = if o = true then Q else s) ∧
    (∀ w, CurAt b s bad w → Calls Try.prog F #[.pointer (some ⟨b, 0, none⟩)] w fun e w' => e = .returned (.int .u64 ((Num.curV bad o V 0 : Nat) : Int)) ∧ CurAt b (Num.curV bad o Q s) (bad || !o) w' ∧ w.grownBy w' (some b)) ∧
    (∀ w, Calls Try.prog G #[.string s] w fun e w' => e = .returned (.tuple #[.int .u64 (M : Int), .string R, .bool o]) ∧ Below w.heap.size w w')
/-- a call of the cursor, and the reference's: the same text -/
def BothTxt (F G : Nat) (b : Nat) (s : ByteArray) (bad : Bool) (m : Int) : Prop :=
  ∃ (V U Q R : ByteArray) (o : Bool), Q.size ≤ 300 ∧ Hid (U = if o = true then V else ByteArray.empty) ∧ Hid (R = if o = true then Q else s) ∧
    (∀ w, CurAt b s bad w → Calls Try.prog F #[.pointer (some ⟨b, 0, none⟩), .int .i64 m] w fun e w' => e = .returned (.string (Num.curV bad o V ByteArray.empty)) ∧ CurAt b (Num.curV bad o Q s) (bad || !o) w' ∧ w.grownBy w' (some b)) ∧
    (∀ w, Calls Try.prog G #[.string s, .int .i64 m] w fun e w' => e = .returned (.tuple #[.string U, .string R, .bool o]) ∧ Below w.heap.size w w')
theorem ext_le (s : ByteArray) (k : Nat) (hs : s.size ≤ 300) : (s.extract k s.size).size ≤ 300 := by simp; omega
theorem both_small (b : Nat) (s : ByteArray) (hs : s.size ≤ 300) (bad : Bool) : BothNum 23 24 b s bad :=
  ⟨(Num.decp 0 0 s.data.toList).1, _, s.extract (Num.decp 0 0 s.data.toList).2.1 s.size, _, (Num.decp 0 0 s.data.toList).2.2, ext_le _ _ hs, Lib.hid rfl, Lib.hid rfl,
    fun w hc => curSmall b s (by unfold maxLen; omega) bad w hc, fun w => rGetSmall_any s hs w _ _ _ rfl rfl rfl⟩
theorem both_wide (b : Nat) (s : ByteArray) (hs : s.size ≤ 300) (bad : Bool) : BothNum 25 26 b s bad := by
  refine ⟨(if decide (8 ≤ s.size) = true then Num.num (s.data.toList.take 8) else 0), _, s.extract (if decide (8 ≤ s.size) = true then 8 else 0) s.size, _, decide (8 ≤ s.size), ext_le _ _ hs, Lib.hid rfl, Lib.hid rfl,
    fun w hc => curWide b s (by unfold maxLen; omega) bad w hc, fun w => ?_⟩
  refine (rGetWide_any s hs w).mono ?_
  rintro e w' ⟨rfl, h⟩
  refine ⟨?_, h⟩
  by_cases h8 : decide (8 ≤ s.size) = true <;> simp [h8]
theorem both_text (b : Nat) (s : ByteArray) (hs : s.size ≤ 300) (bad : Bool) (m : Int) (hm : Hid (-9223372036854775808 ≤ m ∧ m ≤ 9223372036854775807)) : BothTxt 27 28 b s bad m := by
  refine ⟨(if Num.xOk m s = true then Num.xV s else ByteArray.empty), _, s.extract (if Num.xOk m s = true then Num.xN s else 0) s.size, _, Num.xOk m s, ext_le _ _ hs, Lib.hid rfl, Lib.hid rfl,
    fun w hc => curText b s (by unfold maxLen; omega) bad m hm w hc, fun w => ?_⟩
  refine (rGetText_any s hs m hm w _ _ _ rfl rfl rfl).mono ?_
  rintro e w' ⟨rfl, h⟩
  refine ⟨?_, h⟩
  by_cases h8 : Num.xOk m s = true <;> simp [h8]
theorem both_fixed (b : Nat) (s : ByteArray) (hs : s.size ≤ 300) (bad : Bool) (m : Int) : BothTxt 29 30 b s bad m :=
  ⟨Num.fT (Num.sz m) s, _, s.extract (Num.fN (Num.sz m) s) s.size, _, Num.fAll (Num.sz m) s, ext_le _ _ hs, Lib.hid rfl, Lib.hid rfl,
    fun w hc => curFixed b s (by unfold maxLen; omega) bad m w hc, fun w => rGetFixed_any s hs m w _ _ _ rfl rfl rfl⟩
theorem both_take (b : Nat) (s : ByteArray) (hs : s.size ≤ 300) (bad : Bool) (m : Int) : BothTxt 31 32 b s bad m := by
  refine ⟨(if Num.tOk m s = true then s.extract 0 m.toNat else ByteArray.empty), _, s.extract (if Num.tOk m s = true then m.toNat else 0) s.size, _, Num.tOk m s, ext_le _ _ hs, Lib.hid rfl, Lib.hid rfl,
    fun w hc => curTake b s (by unfold maxLen; omega) bad m w hc, fun w => ?_⟩
  refine (rGetTake_any s (by unfold maxLen; omega) m w).mono ?_
  rintro e w' ⟨rfl, h⟩
  refine ⟨?_, h⟩
  by_cases h8 : Num.tOk m s = true <;> simp [h8]
end Go.Proofs.Ytkknagfeceljdaa
