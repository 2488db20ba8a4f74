/-
  Acts in a world; what few of the laws comes to.
-/
import Derived.Test.YtmibfgeigolmdaaSfX
import Derived.BigQuiet
namespace Go.Proofs.Ytmibfgeigolmdaa
open Go.RowKit
/-- where an act lies, and what it is -/
structure ActAt where
  k : Int
  a : ByteArray
  b : ByteArray
  n : Int
  ka : Option Addr
  kc : Nat
  kp : Sf.Keep
def ActAt.cell (x : ActAt) (j : Nat) : Value := if j = 0 then .int .i64 x.k else if j = 1 then .string x.a else if j = 2 then .string x.b else if j = 3 then .int .i64 x.n else .slice x.ka x.kp.n x.kc
def ActAt.val (x : ActAt) : Value := .agg #[.int .i64 x.k, .string x.a, .string x.b, .int .i64 x.n, .slice x.ka x.kp.n x.kc]
/-- an act that lies in a world -/
structure ActIn (w : World) (x : ActAt) : Prop where
  keep : KeepIn w x.ka x.kc x.kp
  asz : x.a.size ≤ maxLen
  bsz : x.b.size ≤ maxLen
  nhi : x.n ≤ 9223372036854775807
theorem ActIn.later {w w2 : World} {x : ActAt} (h : ActIn w x) (hb : Below w.heap.size w w2) : ActIn w2 x := ⟨h.keep.later hb, h.asz, h.bsz, h.nhi⟩
/-- is one an act that is looked at? -/
def fewA (x : ActAt) : Bool := decide (x.a.size ≤ 60) && decide (x.b.size ≤ 300) && decide (x.kp.n ≤ 20)
def fewAs (o : Nat → ActAt) (n : Nat) : Bool := decide (n ≤ 40) && (List.range n).all fun i => fewA (o i)
theorem fewAs_no {o : Nat → ActAt} {n i : Nat} (h : i < n) (hi : fewA (o i) = false) : fewAs o n = false := by
  unfold fewAs
  rw [Bool.and_eq_false_iff]
  right
  rw [List.all_eq_false]
  exact ⟨i, List.mem_range.2 h, by rw [hi]; simp⟩
theorem fewA_yes {x : ActAt} (h : fewA x = true) : x.a.size ≤ 60 ∧ x.b.size ≤ 300 ∧ x.kp.n ≤ 20 := by
  unfold fewA at h
  simp at h
  exact ⟨h.1.1, h.1.2, h.2⟩
theorem fewAs_yes {o : Nat → ActAt} {n : Nat} (h : fewAs o n = true) : n ≤ 40 ∧ ∀ i, i < n → fewA (o i) = true := by
  unfold fewAs at h
  rw [Bool.and_eq_true, List.all_eq_true] at h
  exact ⟨of_decide_eq_true h.1, fun i hi => h.2 i (List.mem_range.2 hi)⟩
set_option maxRecDepth 100000 in
set_option maxHeartbeats 1000000 in
theorem fewActs_any (A : Option Addr) (n c : Nat) (hn : n ≤ maxLen) (o : Nat → ActAt) (w : World) (hA : Row 5 (fun i => (o i).cell) w A n) (ho : ∀ i, i < n → ActIn w (o i)) :
    Calls Try.prog 10 #[.slice A n c] w fun e w' => e = .returned (.bool (fewAs o n)) ∧ Below w.heap.size w w' := by
  unfold maxLen at hn
  have HA := Lib.hid hA; have HO := Lib.hid ho; clear hA ho
  go_enter Try.func10, Try.ntmps10
  go_wp2_with fail
  go_loopw [2, 3] (fun _ i wr => ∃ k : Nat, k ≤ n ∧ k ≤ 41 ∧ i = .int .i64 k ∧ (∀ j, j < k → fewA (o j) = true) ∧ Below w.heap.size w wr) (fun _ i _ => n - (intOf i).toNat)
  case atStart => exact ⟨0, Nat.zero_le _, by omega, rfl, fun j hj => by omega, Below.refl _ _⟩
  case round =>
    obtain ⟨k, hk, hk41, rfl, hall, hb⟩ := hrel
    have HL := Lib.hid hall; have HB := Lib.hid hb; clear hall hb
    by_cases hgo : k < n ∧ k ≤ 40
    · obtain ⟨h1, h2⟩ := hgo
      obtain ⟨ad, rfl, -, cc⟩ := HA.out.at_ HB.out h1
      have x1 : wr.cell? ⟨(ad.add (k * 5)).block, (ad.add (k * 5)).off + 1, none⟩ = some (.string (o k).a) := cc 1 (by omega) (by omega)
      have x2 : wr.cell? ⟨(ad.add (k * 5)).block, (ad.add (k * 5)).off + 2, none⟩ = some (.string (o k).b) := cc 2 (by omega) (by omega)
      have x4 : wr.cell? ⟨(ad.add (k * 5)).block, (ad.add (k * 5)).off + 4, none⟩ = some (.slice (o k).ka (o k).kp.n (o k).kc) := cc 4 (by omega) (by omega)
      have i1 : (k : Int) < (n : Int) := by omega
      have i0 : (0 : Int) ≤ (k : Int) := by omega
      have i2 : (k : Int) ≤ 40 := by omega
      have d1 : decide ((k : Int) < (n : Int)) = true := decide_eq_true i1
      have d2 : decide ((k : Int) ≤ 40) = true := decide_eq_true i2
      have HNO : Hid (fewA (o k) = false → fewAs o n = false) := Lib.hid (fun h => fewAs_no h1 h)
      have HYES : Hid (fewA (o k) = true → ∀ j, j < k + 1 → fewA (o j) = true) := Lib.hid (fun h j hj => by
        by_cases e : j = k
        · rw [e]; exact h
        · exact HL.out j (by omega))
      have hfo : fewA (o k) = (decide ((o k).a.size ≤ 60) && decide ((o k).b.size ≤ 300) && decide ((o k).kp.n ≤ 20)) := rfl
      have HFO := Lib.hid hfo
      clear cc HL hfo
      generalize hza : (o k).a.size = za at *
      generalize hzb : (o k).b.size = zb at *
      generalize hzk : (o k).kp.n = zk at *
      by_cases ha : za ≤ 60
      · have e1 : decide ((za : Int) > 60) = false := decide_eq_false (by omega)
        have e1b : decide (60 < za) = false := decide_eq_false (by omega)
        by_cases hb : zb ≤ 300
        · have e2 : decide ((zb : Int) > 300) = false := decide_eq_false (by omega)
          have e2b : decide (300 < zb) = false := decide_eq_false (by omega)
          by_cases hc : zk ≤ 20
          · have e3 : decide (20 < (zk : Int)) = false := decide_eq_false (by omega)
            have e3b : decide (20 < zk) = false := decide_eq_false (by omega)
            have HR := Lib.hid (HYES.out (by rw [HFO.out, decide_eq_true ha, decide_eq_true hb, decide_eq_true hc]; rfl))
            clear HNO HYES HFO
            go_wp2_with fail
            go_roundw
            case rel => exact ⟨k + 1, by omega, by omega, by go_num, HR.out, HB.out⟩
            case measure => simp [intOf]; omega
          · have e3 : decide (20 < (zk : Int)) = true := decide_eq_true (by omega)
            have e3b : decide (20 < zk) = true := decide_eq_true (by omega)
            have HR : Hid (fewAs o n = false) := Lib.hid (HNO.out (by rw [HFO.out, decide_eq_false hc, Bool.and_false]))
            clear HNO HYES HFO
            go_wp2_with fail
            go_ret
            exact ⟨by rw [HR.out]; rfl, HB.out⟩
        · have e2 : decide (300 < (zb : Int)) = true := decide_eq_true (by omega)
          have e2b : decide (300 < zb) = true := decide_eq_true (by omega)
          have HR : Hid (fewAs o n = false) := Lib.hid (HNO.out (by rw [HFO.out, decide_eq_false hb, Bool.and_false, Bool.false_and]))
          clear HNO HYES HFO
          go_wp2_with fail
          go_ret
          exact ⟨by rw [HR.out]; rfl, HB.out⟩
      · have e1 : decide (60 < (za : Int)) = true := decide_eq_true (by omega)
        have e1b : decide (60 < za) = true := decide_eq_true (by omega)
        have HR : Hid (fewAs o n = false) := Lib.hid (HNO.out (by rw [HFO.out, decide_eq_false ha, Bool.false_and, Bool.false_and]))
        clear HNO HYES HFO
        go_wp2_with fail
        go_ret
        exact ⟨by rw [HR.out]; rfl, HB.out⟩
    · by_cases hlt : k < n
      · have i1 : (k : Int) < (n : Int) := by omega
        have d1 : decide ((k : Int) < (n : Int)) = true := decide_eq_true i1
        have d2 : decide ((k : Int) ≤ 40) = false := decide_eq_false (by omega)
        have d3 : decide ((n : Int) ≤ 40) = false := decide_eq_false (by omega)
        have HR : Hid (fewAs o n = false) := Lib.hid (by unfold fewAs; rw [decide_eq_false (by omega)]; rfl)
        go_wp2_with fail
        go_ret
        exact ⟨by rw [HR.out]; rfl, HB.out⟩
      · obtain rfl : k = n := by omega
        have d1 : decide ((k : Int) < (k : Int)) = false := by simp
        by_cases h40 : k ≤ 40
        · have d3 : decide ((k : Int) ≤ 40) = true := decide_eq_true (by omega)
          have HR : Hid (fewAs o k = true) := Lib.hid (by
            unfold fewAs
            rw [decide_eq_true h40, Bool.true_and, List.all_eq_true]
            intro j hj
            exact HL.out j (List.mem_range.1 hj))
          go_wp2_with fail
          go_ret
          exact ⟨by rw [HR.out]; rfl, HB.out⟩
        · have d3 : decide ((k : Int) ≤ 40) = false := decide_eq_false (by omega)
          have HR : Hid (fewAs o k = false) := Lib.hid (by unfold fewAs; rw [decide_eq_false h40]; rfl)
          go_wp2_with fail
          go_ret
          exact ⟨by rw [HR.out]; rfl, HB.out⟩
theorem below_drewN {B : Nat} {a w : World} (h : Below B a w) (n : Nat) : Below B a (w.drewN n) := h.trans ⟨rfl, rfl, rfl, Nat.le_refl _, fun _ _ => rfl⟩
/-- a row of texts -/
def tx (l : List (List UInt8)) (i _ : Nat) : Value := .string (bs (l.getD i []))
theorem bs_inj {a b : List UInt8} (h : bs a = bs b) : a = b := by
  unfold bs at h
  injection h with h
  simpa using h
set_option maxRecDepth 100000 in
set_option maxHeartbeats 1000000 in
theorem Texts_any (A B : Option Addr) (cA cB : Nat) (l m : List (List UInt8)) (hl : l.length ≤ 1000) (hm : m.length ≤ 1000) (w : World) (hA : Row 1 (tx l) w A l.length) (hB : Row 1 (tx m) w B m.length) :
    Calls Try.prog 16 #[.slice A l.length cA, .slice B m.length cB] w fun e w' => e = .returned (.bool (decide (l = m))) ∧ Below w.heap.size w w' := by
  have HA := Lib.hid hA; have HB := Lib.hid hB; clear hA hB
  obtain ⟨n, hn⟩ : ∃ n, n = l.length := ⟨_, rfl⟩
  obtain ⟨n2, hn2⟩ : ∃ n, n = m.length := ⟨_, rfl⟩
  rw [← hn] at HA hl ⊢
  rw [← hn2] at HB hm ⊢
  have HN := Lib.hid hn; have HN2 := Lib.hid hn2
  clear hn hn2
  by_cases hne : n = n2
  · subst hne
    have d0 : (((n : Nat) : Int) != ((n : Nat) : Int)) = false := by simp
    have d0b : decide (((n : Nat) : Int) = ((n : Nat) : Int)) = true := by simp
    go_enter Try.func16, Try.ntmps16
    go_wp2_with fail
    go_loopw [4, 5] (fun _ i wr => ∃ k : Nat, k ≤ n ∧ i = .int .i64 k ∧ (∀ j, j < k → l.getD j [] = m.getD j []) ∧ Below w.heap.size w wr) (fun _ i _ => n - (intOf i).toNat)
    case atStart => exact ⟨0, Nat.zero_le _, rfl, fun j hj => by omega, Below.refl _ _⟩
    case round =>
      obtain ⟨k, hk, rfl, hall, hb⟩ := hrel
      have HL := Lib.hid hall; have HBL := Lib.hid hb; clear hall hb
      by_cases hlt : k < n
      · obtain ⟨ad, rfl, x0, -⟩ := HA.out.at_ HBL.out hlt
        obtain ⟨ad2, rfl, y0, -⟩ := HB.out.at_ HBL.out hlt
        have x0 := x0 (by omega)
        have y0 := y0 (by omega)
        rw [Nat.mul_one] at x0 y0
        have i1 : (k : Int) < (n : Int) := by omega
        have i0 : (0 : Int) ≤ (k : Int) := by omega
        have d1 : decide ((k : Int) < (n : Int)) = true := decide_eq_true i1
        have e1 : tx l k 0 = .string (bs (l.getD k [])) := rfl
        have e2 : tx m k 0 = .string (bs (m.getD k [])) := rfl
        rw [e1] at x0
        rw [e2] at y0
        clear e1 e2
        have HEQ : Hid ((bs (l.getD k []) = bs (m.getD k [])) ↔ l.getD k [] = m.getD k []) := Lib.hid ⟨fun h => bs_inj h, fun h => by rw [h]⟩
        have HLM : Hid (l.getD k [] ≠ m.getD k [] → l ≠ m) := Lib.hid (fun h e => h (by rw [e]))
        have HS1 : Hid (l.getD k [] = m.getD k [] → ∀ j, j < k + 1 → l.getD j [] = m.getD j []) := Lib.hid (fun h j hj => by
          by_cases e : j = k
          · rw [e]; exact h
          · exact HL.out j (by omega))
        clear HL
        generalize hgx : bs (l.getD k []) = gx at *
        generalize hgy : bs (m.getD k []) = gy at *
        clear hgx hgy
        by_cases hxy : gx = gy
        · have HR := Lib.hid (HS1.out (HEQ.out.1 hxy))
          subst hxy
          clear HEQ HLM HS1
          have b0 : (gx.toList == gx.toList) = true := by simp
          go_wp2_with fail
          go_quiet (fail)
          go_wp2_with fail
          go_roundw
          case rel => exact ⟨k + 1, by omega, by go_num, HR.out, below_drewN HBL.out _⟩
          case measure => simp [intOf]; omega
        · have HR := Lib.hid (HLM.out (fun h => hxy (HEQ.out.2 h)))
          clear HEQ HLM HS1
          have b0 : (gx.toList == gy.toList) = false := by rw [str_beq]; simpa using hxy
          go_wp2_with fail
          go_quiet (fail)
          go_wp2_with fail
          go_ret
          exact ⟨by rw [decide_eq_false HR.out]; rfl, below_drewN HBL.out _⟩
      · obtain rfl : k = n := by omega
        have d1 : decide ((k : Int) < (k : Int)) = false := by simp
        have HR : Hid (l = m) := Lib.hid (by
          apply List.ext_getElem (HN.out.symm.trans HN2.out)
          intro i h1 h2
          have := HL.out i (by rw [HN.out]; exact h1)
          simpa [List.getD, h1, h2] using this)
        go_wp2_with fail
        go_ret
        exact ⟨by rw [decide_eq_true HR.out]; rfl, HBL.out⟩
  · have HR : Hid (l ≠ m) := Lib.hid (fun e => hne (by rw [HN.out, HN2.out, e]))
    have d0 : (((n : Nat) : Int) != ((n2 : Nat) : Int)) = true := by simp; omega
    have d0b : decide (((n : Nat) : Int) = ((n2 : Nat) : Int)) = false := decide_eq_false (by omega)
    go_enter Try.func16, Try.ntmps16
    go_wp2_with fail
    go_ret
    exact ⟨by rw [decide_eq_false HR.out]; rfl, Below.refl _ _⟩
end Go.Proofs.Ytmibfgeigolmdaa
