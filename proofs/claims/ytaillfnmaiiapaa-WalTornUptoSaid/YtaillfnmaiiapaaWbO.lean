import Derived.Test.YtaillfnmaiiapaaWaWd
import Derived.Test.YtaillfnmaiiapaaLaM
import Derived.Test.YtaillfnmaiiapaaWaN
import Derived.BigQuiet
import Derived.Test.YtaillfnmaiiapaaNumO
import Derived.Deep.Slices
import Derived.OpenShut
import Derived.ChangeOld
/-
  The laws' limits: so few changes, so few keys.
-/
namespace Go.Proofs.Ytaillfnmaiiapaa
open Go.RowKit
/-- changes that came in -/
structure RecsRaw (w : World) (A : Option Addr) (n : Nat) (q : Nat → RAt) : Prop where
  row : Row 5 (rx q) w A n
  labs : ∀ i, i < n → LabRow w (q i).A (q i).r.l.length (La.at_ (q i).r.l)
  words : ∀ i, i < n → Wa.Words (q i).r
  len : ∀ i, i < n → (q i).r.l.length ≤ maxLen
theorem RecsRaw.later {w w2 : World} {A : Option Addr} {n : Nat} {q : Nat → RAt} (h : RecsRaw w A n q) (hb : Below w.heap.size w w2) : RecsRaw w2 A n q :=
  ⟨h.row.later hb, fun i hi => (h.labs i hi).later hb, h.words, h.len⟩
def fewOne (q : Nat → RAt) (i : Nat) : Bool := La.few (La.at_ (q i).r.l) (q i).r.l.length
def fewR (q : Nat → RAt) (n : Nat) : Bool := decide (n ≤ 40) && (List.range n).all (fewOne q)
theorem fewR_no {q : Nat → RAt} {n k : Nat} (hk : k < n) (h : fewOne q k = false) : fewR q n = false := by
  unfold fewR
  have : (List.range n).all (fewOne q) = false := by
    rw [List.all_eq_false]
    exact ⟨k, List.mem_range.2 hk, by rw [h]; exact Bool.false_ne_true⟩
  rw [this, Bool.and_false]
theorem fewR_many {q : Nat → RAt} {n : Nat} (h : 40 < n) : fewR q n = false := by
  unfold fewR
  rw [decide_eq_false (by omega), Bool.false_and]
theorem fewR_all {q : Nat → RAt} {n : Nat} (hn : n ≤ 40) (h : ∀ i, i < n → fewOne q i = true) : fewR q n = true := by
  unfold fewR
  rw [decide_eq_true hn, Bool.true_and, List.all_eq_true]
  intro i hi
  exact h i (List.mem_range.1 hi)
theorem fewR_yes {q : Nat → RAt} {n : Nat} (h : fewR q n = true) : n ≤ 40 ∧ ∀ i, i < n → fewOne q i = true := by
  unfold fewR at h
  simp only [Bool.and_eq_true, decide_eq_true_eq] at h
  exact ⟨h.1, fun i hi => List.all_eq_true.1 h.2 i (List.mem_range.2 hi)⟩
theorem RecsRaw.in_ {w : World} {A : Option Addr} {n : Nat} {q : Nat → RAt} (h : RecsRaw w A n q) (hf : fewR q n = true) : RecsIn w A n q := by
  obtain ⟨h1, h2⟩ := fewR_yes hf
  refine ⟨h.row, fun i hi => ?_, by unfold maxLen; omega⟩
  obtain ⟨h3, h4⟩ := La.few_yes (h2 i hi)
  exact ⟨h.labs i hi, h3, h4, h.words i hi⟩
set_option maxRecDepth 100000 in
set_option maxHeartbeats 1000000 in
theorem FewRecs_any (A : Option Addr) (n c : Nat) (hn : n ≤ maxLen) (q : Nat → RAt) (w : World) (hA : RecsRaw w A n q) :
    Calls Try.prog 9 #[.slice A n c] w fun e w' => e = .returned (.bool (fewR q n)) ∧ Below w.heap.size w w' := by
  unfold maxLen at hn
  have HA := Lib.hid hA; clear hA
  go_enter Try.func9, Try.ntmps9
  go_wp2_with fail
  go_loopw [3, 4] (fun i _ wr => ∃ k : Nat, k ≤ n ∧ k ≤ 41 ∧ i = .int .i64 k ∧ (∀ j, j < k → fewOne q j = true) ∧ Below w.heap.size w wr) (fun i _ _ => n - (intOf i).toNat)
  case atStart => exact ⟨0, Nat.zero_le _, by omega, rfl, (fun j hj => absurd hj (by omega)), Below.refl _ _⟩
  case round =>
    obtain ⟨k, hk, hk11, rfl, hall, hb⟩ := hrel
    by_cases hgo : k < n ∧ k ≤ 40
    · obtain ⟨h1, h2⟩ := hgo
      obtain ⟨ad, rfl, -, c1⟩ := HA.out.row.at_ hb h1
      have x1 := c1 1 (by decide) (by decide)
      have hnx : fewOne q k = true → ∀ j, j < k + 1 → fewOne q j = true := fun h j hj => by
        rcases Nat.lt_or_ge j k with h3 | h3
        · exact hall j h3
        · rw [show j = k from by omega]; exact h
      have HNO := Lib.hid (fun h => fewR_no (q := q) (n := n) (k := k) h1 h); have HNX := Lib.hid hnx; clear hnx hall c1
      have HF : Hid (∀ U, Below w.heap.size w U → Calls Try.prog 18 #[.slice (q k).A (q k).r.l.length (q k).c] U fun e w' => e = .returned (.bool (fewOne q k)) ∧ Below U.heap.size U w') := Lib.hid (fun U hU => Few_any _ _ _ (HA.out.len k h1) _ U ((HA.out.labs k h1).later hU))
      have HB := Lib.hid hb; clear hb
      have x1 : wr.cell? ⟨(ad.add (k * 5)).block, (ad.add (k * 5)).off + 1, none⟩ = some (.slice (q k).A (q k).r.l.length (q k).c) := x1
      have i0 : (0 : Int) ≤ (k : Int) := by omega
      have i1 : (k : Int) < (n : Int) := by omega
      have i2 : (k : Int) ≤ 40 := by omega
      have d1 : decide ((k : Int) < (n : Int)) = true := by simpa using h1
      have d2 : decide ((k : Int) ≤ 40) = true := by simpa using i2
      go_wp2_with fail
      refine (HF.out _ HB.out).mono ?_; rintro e w1 ⟨rfl, hb1⟩
      have HB1 := Lib.hid (below_step HB.out hb1)
      clear hb1 HF
      generalize fewOne q k = b at *
      cases b with
      | true =>
        go_wp2_with fail
        go_roundw
        case rel => exact ⟨k + 1, by omega, by omega, by go_num, HNX.out (by trivial), HB1.out⟩
        case measure => simp [intOf]; omega
      | false =>
        go_wp2_with fail
        go_ret
        rw [HNO.out (by trivial)]
        exact ⟨rfl, HB1.out⟩
    · by_cases hkn : k < n
      · have d1 : decide ((k : Int) < (n : Int)) = true := by simpa using hkn
        have d2 : decide ((k : Int) ≤ 40) = false := by simp; omega
        have d3 : decide ((n : Int) ≤ 40) = false := by simp; omega
        have HR := Lib.hid (fewR_many (q := q) (n := n) (by omega))
        go_wp2_with fail
        go_ret
        rw [HR.out]
        exact ⟨rfl, hb⟩
      · have e : k = n := by omega
        subst e
        have d1 : decide ((k : Int) < (k : Int)) = false := by simp
        by_cases h10 : k ≤ 40
        · have hr := fewR_all h10 hall
          have d3 : decide ((k : Int) ≤ 40) = true := by simp; omega
          have HR := Lib.hid hr; clear hr
          go_wp2_with fail
          go_ret
          rw [HR.out]
          exact ⟨rfl, hb⟩
        · have HR := Lib.hid (fewR_many (q := q) (n := k) (by omega))
          have d3 : decide ((k : Int) ≤ 40) = false := by simp; omega
          go_wp2_with fail
          go_ret
          rw [HR.out]
          exact ⟨rfl, hb⟩
end Go.Proofs.Ytaillfnmaiiapaa
/-
  The laws' limits on keys; texts alike.
-/
namespace Go.Proofs.Ytaillfnmaiiapaa
open Go.RowKit
theorem below_drewN {B : Nat} {a w : World} (h : Below B a w) (n : Nat) : Below B a (w.drewN n) := h.trans ⟨rfl, rfl, rfl, Nat.le_refl _, fun _ _ => rfl⟩
def fewK (K : List ByteArray) : Bool := decide (K.length ≤ 30) && (List.range K.length).all (fun i => decide ((K.getD i ByteArray.empty).size ≤ 700))
theorem fewK_no {K : List ByteArray} {k : Nat} (hk : k < K.length) (h : ¬ (K.getD k ByteArray.empty).size ≤ 700) : fewK K = false := by
  unfold fewK
  have : (List.range K.length).all (fun i => decide ((K.getD i ByteArray.empty).size ≤ 700)) = false := by
    rw [List.all_eq_false]
    exact ⟨k, List.mem_range.2 hk, by simpa using h⟩
  rw [this, Bool.and_false]
theorem fewK_many {K : List ByteArray} (h : 30 < K.length) : fewK K = false := by
  unfold fewK
  rw [decide_eq_false (by omega), Bool.false_and]
theorem fewK_all {K : List ByteArray} (hn : K.length ≤ 30) (h : ∀ i, i < K.length → (K.getD i ByteArray.empty).size ≤ 700) : fewK K = true := by
  unfold fewK
  rw [decide_eq_true hn, Bool.true_and, List.all_eq_true]
  intro i hi
  exact decide_eq_true (h i (List.mem_range.1 hi))
theorem fewK_yes {K : List ByteArray} (h : fewK K = true) : K.length ≤ 30 ∧ ∀ k ∈ K, k.size ≤ 700 := by
  unfold fewK at h
  simp only [Bool.and_eq_true, decide_eq_true_eq] at h
  refine ⟨h.1, fun k hk => ?_⟩
  obtain ⟨i, hi, rfl⟩ := List.getElem_of_mem hk
  have h2 := List.all_eq_true.1 h.2 i (List.mem_range.2 hi)
  simpa [List.getD, hi] using h2
set_option maxRecDepth 100000 in
set_option maxHeartbeats 1000000 in
theorem fewKeys_any (A : Option Addr) (K : List ByteArray) (c : Nat) (hn : K.length ≤ maxLen) (w : World) (hA : Row 1 (kx K) w A K.length) :
    Calls Try.prog 15 #[.slice A K.length c] w fun e w' => e = .returned (.bool (fewK K)) ∧ Below w.heap.size w w' := by
  unfold maxLen at hn
  obtain ⟨n, hne⟩ : ∃ n, n = K.length := ⟨_, rfl⟩
  have HNO := Lib.hid (fun k => fewK_no (K := K) (k := k)); have HMA := Lib.hid (fewK_many (K := K)); have HAL := Lib.hid (fewK_all (K := K))
  rw [← hne] at hA hn HNO HMA HAL ⊢
  clear hne
  have HA := Lib.hid hA; clear hA
  generalize fewK K = R at *
  go_enter Try.func15, Try.ntmps15
  go_wp2_with fail
  go_loopw [3] (fun i wr => ∃ k : Nat, k ≤ n ∧ k ≤ 31 ∧ i = .int .i64 k ∧ (∀ j, j < k → (K.getD j ByteArray.empty).size ≤ 700) ∧ Below w.heap.size w wr) (fun i _ => n - (intOf i).toNat)
  case atStart => exact ⟨0, Nat.zero_le _, by omega, rfl, (fun j hj => absurd hj (by omega)), Below.refl _ _⟩
  case round =>
    obtain ⟨k, hk, hk11, rfl, hall, hb⟩ := hrel
    by_cases hgo : k < n ∧ k ≤ 30
    · obtain ⟨h1, h2⟩ := hgo
      obtain ⟨ad, rfl, c0, -⟩ := HA.out.at_ hb h1
      have c0 := c0 (by omega)
      rw [Nat.mul_one] at c0
      have e1 : kx K k 0 = .string (K.getD k ByteArray.empty) := rfl
      rw [e1] at c0
      clear e1
      have hnx : (K.getD k ByteArray.empty).size ≤ 700 → ∀ j, j < k + 1 → (K.getD j ByteArray.empty).size ≤ 700 := fun h j hj => by
        rcases Nat.lt_or_ge j k with h3 | h3
        · exact hall j h3
        · rw [show j = k from by omega]; exact h
      have HN1 := Lib.hid (HNO.out k h1); have HNX := Lib.hid hnx; have HB := Lib.hid hb; clear hnx hall hb
      generalize K.getD k ByteArray.empty = x at *
      have i0 : (0 : Int) ≤ (k : Int) := by omega
      have i1 : (k : Int) < (n : Int) := by omega
      have i2 : (k : Int) ≤ 30 := by omega
      have d1 : decide ((k : Int) < (n : Int)) = true := by simpa using h1
      have d2 : decide ((k : Int) ≤ 30) = true := by simpa using i2
      by_cases hx : x.size ≤ 700
      · have d3 : decide ((700 : Int) < (x.size : Int)) = false := by simp; omega
        go_wp2_with fail
        go_roundw
        case rel => exact ⟨k + 1, by omega, by omega, by go_num, HNX.out hx, HB.out⟩
        case measure => simp [intOf]; omega
      · have d3 : decide ((700 : Int) < (x.size : Int)) = true := by simp; omega
        go_wp2_with fail
        go_ret
        rw [HN1.out hx]
        exact ⟨rfl, HB.out⟩
    · by_cases hkn : k < n
      · have d1 : decide ((k : Int) < (n : Int)) = true := by simpa using hkn
        have d2 : decide ((k : Int) ≤ 30) = false := by simp; omega
        have d3 : decide ((n : Int) ≤ 30) = false := by simp; omega
        have HR := Lib.hid (HMA.out (by omega))
        go_wp2_with fail
        go_ret
        rw [HR.out]
        exact ⟨rfl, hb⟩
      · have e : k = n := by omega
        subst e
        have d1 : decide ((k : Int) < (k : Int)) = false := by simp
        by_cases h10 : k ≤ 30
        · have d3 : decide ((k : Int) ≤ 30) = true := by simp; omega
          have HR := Lib.hid (HAL.out h10 hall)
          go_wp2_with fail
          go_ret
          rw [HR.out]
          exact ⟨rfl, hb⟩
        · have HR := Lib.hid (HMA.out (by omega))
          have d3 : decide ((k : Int) ≤ 30) = false := by simp; omega
          go_wp2_with fail
          go_ret
          rw [HR.out]
          exact ⟨rfl, hb⟩
set_option maxRecDepth 100000 in
set_option maxHeartbeats 1000000 in
theorem Texts_any (A B : Option Addr) (cA cB : Nat) (l m : List ByteArray) (hl : l.length ≤ 1000) (hm : m.length ≤ 1000) (w : World) (hA : Row 1 (kx l) w A l.length) (hB : Row 1 (kx m) w B m.length) :
    Calls Try.prog 16 #[.slice A l.length cA, .slice B m.length cB] w fun e w' => e = .returned (.bool (decide (l = m))) ∧ Below w.heap.size w w' := by
  have HA := Lib.hid hA; have HB := Lib.hid hB; clear hA hB
  obtain ⟨n, hn⟩ : ∃ n, n = l.length := ⟨_, rfl⟩
  obtain ⟨n2, hn2⟩ : ∃ n, n = m.length := ⟨_, rfl⟩
  rw [← hn] at HA hl ⊢
  rw [← hn2] at HB hm ⊢
  have HN := Lib.hid hn; have HN2 := Lib.hid hn2
  clear hn hn2
  by_cases hne : n = n2
  · subst hne
    have d0 : (((n : Nat) : Int) != ((n : Nat) : Int)) = false := by simp
    have d0b : decide (((n : Nat) : Int) = ((n : Nat) : Int)) = true := by simp
    go_enter Try.func16, Try.ntmps16
    go_wp2_with fail
    go_loopw [4, 5] (fun _ i wr => ∃ k : Nat, k ≤ n ∧ i = .int .i64 k ∧ (∀ j, j < k → l.getD j ByteArray.empty = m.getD j ByteArray.empty) ∧ Below w.heap.size w wr) (fun _ i _ => n - (intOf i).toNat)
    case atStart => exact ⟨0, Nat.zero_le _, rfl, fun j hj => by omega, Below.refl _ _⟩
    case round =>
      obtain ⟨k, hk, rfl, hall, hb⟩ := hrel
      have HL := Lib.hid hall; have HBL := Lib.hid hb; clear hall hb
      by_cases hlt : k < n
      · obtain ⟨ad, rfl, x0, -⟩ := HA.out.at_ HBL.out hlt
        obtain ⟨ad2, rfl, y0, -⟩ := HB.out.at_ HBL.out hlt
        have x0 := x0 (by omega)
        have y0 := y0 (by omega)
        rw [Nat.mul_one] at x0 y0
        have i1 : (k : Int) < (n : Int) := by omega
        have i0 : (0 : Int) ≤ (k : Int) := by omega
        have d1 : decide ((k : Int) < (n : Int)) = true := decide_eq_true i1
        have e1 : kx l k 0 = .string (l.getD k ByteArray.empty) := rfl
        have e2 : kx m k 0 = .string (m.getD k ByteArray.empty) := rfl
        rw [e1] at x0
        rw [e2] at y0
        clear e1 e2
        
        have HLM : Hid (l.getD k ByteArray.empty ≠ m.getD k ByteArray.empty → l ≠ m) := Lib.hid (fun h e => h (by rw [e]))
        have HS1 : Hid (l.getD k ByteArray.empty = m.getD k ByteArray.empty → ∀ j, j < k + 1 → l.getD j ByteArray.empty = m.getD j ByteArray.empty) := Lib.hid (fun h j hj => by
          by_cases e : j = k
          · rw [e]; exact h
          · exact HL.out j (by omega))
        clear HL
        generalize hgx : l.getD k ByteArray.empty = gx at *
        generalize hgy : m.getD k ByteArray.empty = gy at *
        clear hgx hgy
        by_cases hxy : gx = gy
        · have HR := Lib.hid (HS1.out hxy)
          subst hxy
          clear HLM HS1
          have b0 : (gx.toList == gx.toList) = true := by simp
          go_wp2_with fail
          go_quiet (fail)
          go_wp2_with fail
          go_roundw
          case rel => exact ⟨k + 1, by omega, by go_num, HR.out, below_drewN HBL.out _⟩
          case measure => simp [intOf]; omega
        · have HR := Lib.hid (HLM.out hxy)
          clear HLM HS1
          have b0 : (gx.toList == gy.toList) = false := by rw [str_beq]; simpa using hxy
          go_wp2_with fail
          go_quiet (fail)
          go_wp2_with fail
          go_ret
          exact ⟨by rw [decide_eq_false HR.out]; rfl, below_drewN HBL.out _⟩
      · obtain rfl : k = n := by omega
        have d1 : decide ((k : Int) < (k : Int)) = false := by simp
        have HR : Hid (l = m) := Lib.hid (by
          apply List.ext_getElem (HN.out.symm.trans HN2.out)
          intro i h1 h2
          have := HL.out i (by rw [HN.out]; exact h1)
          simpa [List.getD, h1, h2] using this)
        go_wp2_with fail
        go_ret
        exact ⟨by rw [decide_eq_true HR.out]; rfl, HBL.out⟩
  · have HR : Hid (l ≠ m) := Lib.hid (fun e => hne (by rw [HN.out, HN2.out, e]))
    have d0 : (((n : Nat) : Int) != ((n2 : Nat) : Int)) = true := by simp; omega
    have d0b : decide (((n : Nat) : Int) = ((n2 : Nat) : Int)) = false := decide_eq_false (by omega)
    go_enter Try.func16, Try.ntmps16
    go_wp2_with fail
    go_ret
    exact ⟨by rw [decide_eq_false HR.out]; rfl, Below.refl _ _⟩
end Go.Proofs.Ytaillfnmaiiapaa
/-
  Changes and texts that came in.
-/
namespace Go.Proofs.Ytaillfnmaiiapaa
open Go.RowKit
open Go.ChangeShapes Go.WideShapes Go.Deep
section
variable {H : Type} {enc : TypeId × Value → H} {w : World} {spare : Nat → Bool} {held : Bool}
set_option maxRecDepth 100000 in
theorem labs_of {fuel : Nat} {v : Value} {x : DataW H × List MemPlace} (h : DataW.trod enc Try.prog w 0 spare held fuel 49 [v] = some x) :
    ∃ (A : Option Addr) (l : List Lab) (c : Nat), v = .slice A l.length c ∧ l.length ≤ maxLen ∧ (A = none → l.length = 0 ∧ c = 0) ∧ LabRow w A l.length (La.at_ l) := by
  rcases open_slice_pairs Try.underlying49 Try.underlying54 rfl rfl rfl rfl rfl h with ⟨hcs, _⟩ | ⟨a, len, cap, m, n', V0, V1, D0, D1, P0, P1, hcs, _, hl, hm, hmm, _, hi⟩
  · exact ⟨none, [], 0, (List.cons.inj hcs).1, by simp, fun _ => ⟨rfl, rfl⟩, fun h => absurd h (Nat.lt_irrefl 0)⟩
  · have hlm : len ≤ m := by rw [hmm]; split <;> omega
    have each : ∀ i, i < m → ∃ q : Lab, V0 i = .string q.1 ∧ V1 i = .string q.2 := fun i him => by
      obtain ⟨_, _, g0, g1⟩ := hi i him
      obtain ⟨z0, e0, w0⟩ := text_of_trod Try.underlying9 g0
      obtain ⟨z1, e1, w1⟩ := text_of_trod Try.underlying9 g1
      exact ⟨(z0, z1), e0, e1⟩
    have : Inhabited Lab := ⟨(ByteArray.empty, ByteArray.empty)⟩
    obtain ⟨q, hq⟩ := choose_lt each
    have hlen : ((List.range len).map q).length = len := by simp
    refine ⟨some a, (List.range len).map q, cap, by rw [hlen]; exact (List.cons.inj hcs).1, by rw [hlen]; exact Nat.le_trans hl hm, (fun h => by cases h), ?_⟩
    rw [hlen]
    intro hn
    refine ⟨a, rfl, ?_, fun i hin => ?_⟩
    · have := block_lt_of_cell (hi 0 (by omega)).1
      rwa [addr_block] at this
    · obtain ⟨g0, g1, _, _⟩ := hi i (by omega)
      obtain ⟨q0, q1⟩ := hq i (by omega)
      rw [q0] at g0; rw [q1] at g1
      have e : La.at_ ((List.range len).map q) i = q i := by unfold La.at_; simp [List.getD, hin]
      rw [e]
      exact ⟨g0, g1⟩
def RAt.cells (x : RAt) : List Value := [.int .i64 x.r.kind, .slice x.A x.r.l.length x.c, .int .i64 x.r.t, .int .i64 x.r.hi, .int .u64 (x.r.v : Int)]
structure RAt.Came (w : World) (x : RAt) : Prop where
  labs : LabRow w x.A x.r.l.length (La.at_ x.r.l)
  words : Wa.Words x.r
  len : x.r.l.length ≤ maxLen
set_option maxRecDepth 100000 in
set_option maxHeartbeats 1000000 in
theorem rec_of {fuel : Nat} {cs : List Value} {x : DataW H × List MemPlace} (h : DataW.trod enc Try.prog w 0 spare held fuel 52 cs = some x) :
    ∃ o : RAt, cs = o.cells ∧ o.Came w := by
  obtain ⟨xs, k, hk, hxy, hlen, hxl, hf⟩ := DataW.trod_struct Try.underlying52 h
  have hc : Try.prog.cellsOf 52 = 5 := by kernel_rfl
  rw [hc] at hlen
  match xs, hxl, cs, hlen with
  | [y0, y1, y2, y3, y4], _, [v0, v1, v2, v3, v4], _ =>
    have g0 := hf 0 _ rfl
    have g1 := hf 1 _ rfl
    have g2 := hf 2 _ rfl
    have g3 := hf 3 _ rfl
    have g4 := hf 4 _ rfl
    have e0 : Try.prog.cellsOf 3 = 1 := by kernel_rfl
    have e1 : Try.prog.cellsOf 49 = 1 := by kernel_rfl
    have e3 : Try.prog.cellsOf 2 = 1 := by kernel_rfl
    have e4 : Try.prog.cellsOf 50 = 1 := by kernel_rfl
    simp [e0, e1, e3, e4] at g0 g1 g2 g3 g4
    obtain ⟨a0, h0, _⟩ := DataW.trod_int Try.underlying3 g0
    obtain ⟨A1, l, c1, h1, q1, z1, r1⟩ := labs_of g1
    obtain ⟨a2, h2, _, w2⟩ := DataW.trod_int Try.underlying2 g2
    obtain ⟨a3, h3, _, w3⟩ := DataW.trod_int Try.underlying2 g3
    obtain ⟨a4, h4, _, w4⟩ := DataW.trod_int Try.underlying50 g4
    obtain ⟨n4, rfl, b4⟩ := u64_nat a4 w4
    have b2 := (i64_bd a2 w2).out
    have b3 := (i64_bd a3 w3).out
    refine ⟨⟨⟨a0, l, a2, a3, n4⟩, A1, c1⟩, ?_, ⟨r1, ⟨b2.1, b2.2, b3.1, b3.2, b4.out⟩, q1⟩⟩
    rw [h1, show v0 = .int .i64 a0 from (List.cons.inj h0).1, show v2 = .int .i64 a2 from (List.cons.inj h2).1, show v3 = .int .i64 a3 from (List.cons.inj h3).1, show v4 = .int .u64 (n4 : Int) from (List.cons.inj h4).1]
    rfl
theorem rx_cells (q : Nat → RAt) (i j : Nat) (hj : j < 5) : (q i).cells[j]? = some (rx q i j) := by
  rcases (show j = 0 ∨ j = 1 ∨ j = 2 ∨ j = 3 ∨ j = 4 by omega) with rfl | rfl | rfl | rfl | rfl <;> rfl
set_option maxRecDepth 100000 in
set_option maxHeartbeats 1000000 in
theorem recs_of {fuel : Nat} {v : Value} {x : DataW H × List MemPlace} (hf : DataW.trod enc Try.prog w 0 spare held fuel 25 [v] = some x) :
    ∃ (A : Option Addr) (n c : Nat) (q : Nat → RAt), v = .slice A n c ∧ n ≤ maxLen ∧ (A = none → n = 0 ∧ c = 0) ∧ RecsRaw w A n q := by
  rcases open_slice Try.underlying25 hf with ⟨hcs, _⟩ | ⟨a, len, cap, m, n', D, Pl, hcs, _, hl, hm, hmm, _, hi⟩
  · obtain rfl := (List.cons.inj hcs).1
    exact ⟨none, 0, 0, fun _ => ⟨⟨0, [], 0, 0, 0⟩, none, 0⟩, rfl, by simp, fun _ => ⟨rfl, rfl⟩, fun h => absurd h (by omega), fun i hi => absurd hi (by omega), fun i hi => absurd hi (by omega), fun i hi => absurd hi (by omega)⟩
  · obtain rfl := (List.cons.inj hcs).1
    have hc5 : Try.prog.cellsOf 52 = 5 := by kernel_rfl
    have hlm : len ≤ m := by rw [hmm]; split <;> omega
    have each : ∀ i, i < m → ∃ q : RAt, (∀ j, j < 5 → w.cell? (a.add (i * 5 + j)) = q.cells[j]?) ∧ q.Came w := fun i him => by
      obtain ⟨cs', h1, h2⟩ := hi i him
      rw [hc5] at h1
      obtain ⟨_, hlen, hcell⟩ := World.cells?_some h1
      obtain ⟨q, rfl, s1⟩ := rec_of h2
      refine ⟨q, fun j hj => ?_, s1⟩
      have e := hcell j (by omega)
      rw [add_add] at e
      rw [e]
    have : Inhabited RAt := ⟨⟨⟨0, [], 0, 0, 0⟩, none, 0⟩⟩
    obtain ⟨q, hq⟩ := choose_lt each
    refine ⟨some a, len, cap, q, rfl, Nat.le_trans hl hm, (fun h => by cases h), ⟨fun hn => ⟨a, rfl, ?_, fun i hin j hj => ?_⟩, fun i hin => (hq i (by omega)).2.labs, fun i hin => (hq i (by omega)).2.words, fun i hin => (hq i (by omega)).2.len⟩⟩
    · have := block_lt_of_cell ((hq 0 (by omega)).1 0 (by omega))
      rwa [addr_block] at this
    · rw [(hq i (by omega)).1 j hj]
      exact rx_cells q i j hj
set_option maxRecDepth 100000 in
theorem open_recs {r : Reach} {b0 : Nat} {v : Value} {d : DataW H} {p : List MemPlace} (hv : Value.okWide Try.prog w r b0 25 v) (h : DataW.Trod enc Try.prog w 0 spare held 25 v d p) :
    ∃ (A : Option Addr) (n c : Nat) (q : Nat → RAt), v = .slice A n c ∧ n ≤ maxLen ∧ (A = none → n = 0 ∧ c = 0) ∧ RecsRaw w A n q := by
  obtain ⟨A, n, c, rfl⟩ := okWide_slice Try.underlying25 hv
  obtain ⟨fuel, hf⟩ := h
  exact recs_of hf
set_option maxRecDepth 100000 in
theorem open_keys {r : Reach} {b0 : Nat} {v : Value} {d : DataW H} {p : List MemPlace} (hv : Value.okWide Try.prog w r b0 30 v) (h : DataW.Trod enc Try.prog w 0 spare held 30 v d p) :
    ∃ (A : Option Addr) (K : List ByteArray) (c : Nat), v = .slice A K.length c ∧ K.length ≤ maxLen ∧ (A = none → K.length = 0 ∧ c = 0) ∧ Row 1 (kx K) w A K.length := by
  obtain ⟨A, n, c, rfl⟩ := okWide_slice Try.underlying30 hv
  obtain ⟨fuel, hf⟩ := h
  rcases open_slice Try.underlying30 hf with ⟨hcs, _⟩ | ⟨a, len, cap, m, n', D, Pl, hcs, _, hl, hm, hmm, _, hi⟩
  · simp [Value.cells] at hcs
    obtain ⟨rfl, rfl, rfl⟩ := hcs
    exact ⟨none, [], 0, rfl, by simp, fun _ => ⟨rfl, rfl⟩, fun h => absurd h (Nat.lt_irrefl 0)⟩
  · simp [Value.cells] at hcs
    obtain ⟨rfl, rfl, rfl⟩ := hcs
    have hc1 : Try.prog.cellsOf 9 = 1 := by kernel_rfl
    have hlm : n ≤ m := by rw [hmm]; split <;> omega
    have each : ∀ i, i < m → ∃ q : ByteArray, w.cell? (a.add (i * 1)) = some (.string q) := fun i him => by
      obtain ⟨cs', h1, h2⟩ := hi i him
      rw [hc1] at h1
      obtain ⟨_, hlen, hcell⟩ := World.cells?_some h1
      obtain ⟨q, hq, -, hw⟩ := DataW.trod_string Try.underlying9 h2
      have e := hcell 0 (by omega)
      rw [add_add] at e
      refine ⟨q, ?_⟩
      rw [hq] at e
      exact e
    have : Inhabited ByteArray := ⟨ByteArray.empty⟩
    obtain ⟨q, hq⟩ := choose_lt each
    have hlen : ((List.range n).map q).length = n := by simp
    refine ⟨some a, (List.range n).map q, c, by rw [hlen], by rw [hlen]; exact Nat.le_trans hl hm, (fun h => by cases h), ?_⟩
    rw [hlen]
    refine fun hn => ⟨a, rfl, ?_, fun i hin j hj => ?_⟩
    · have := block_lt_of_cell (hq 0 (by omega))
      rwa [addr_block] at this
    · obtain rfl : j = 0 := by omega
      have e : kx ((List.range n).map q) i 0 = .string (q i) := by unfold kx; simp [List.getD, hin]
      rw [e]
      exact hq i (by omega)
end
end Go.Proofs.Ytaillfnmaiiapaa
