/-
  Operations in a world; what FewOps of the laws comes to.
-/
import Derived.Test.YtidfanmfibbiiaaTrF
namespace Go.Proofs.Ytidfanmfibbiiaa
open Go.RowKit
/-- where an operation lies, and what it is -/
structure OpAt where
  kind : Int
  la : Option Addr
  ln : Nat
  lc : Nat
  f : Nat → Lab
  ma : Option Addr
  mn : Nat
  mc : Nat
  m : Nat → Mat
  t : Int
  hi : Int
  v : Int
  gen : Int
def OpAt.cell (o : OpAt) (j : Nat) : Value := if j = 0 then .int .i64 o.kind else if j = 1 then .slice o.la o.ln o.lc else if j = 2 then .slice o.ma o.mn o.mc else if j = 3 then .int .i64 o.t else if j = 4 then .int .i64 o.hi else if j = 5 then .int .u64 o.v else .int .i64 o.gen
/-- an operation that lies in a world -/
structure OpIn (w : World) (o : OpAt) : Prop where
  labs : LabRow w o.la o.ln o.f
  lnone : o.la = none → o.ln = 0 ∧ o.lc = 0
  lmax : o.ln ≤ maxLen
  mats : Row 3 (mx o.m) w o.ma o.mn
  mnone : o.ma = none → o.mn = 0 ∧ o.mc = 0
  mmax : o.mn ≤ maxLen
theorem OpIn.later {w w2 : World} {o : OpAt} (h : OpIn w o) (hb : Below w.heap.size w w2) : OpIn w2 o := ⟨h.labs.later hb, h.lnone, h.lmax, h.mats.later hb, h.mnone, h.mmax⟩
/-- is one an operation that is looked at? -/
def fewO (o : OpAt) : Bool := La.few o.f o.ln && La.few (Ma.lab o.m) o.mn
def fewOs (o : Nat → OpAt) (n : Nat) : Bool := decide (n ≤ 40) && (List.range n).all fun i => fewO (o i)
theorem fewOs_no {o : Nat → OpAt} {n i : Nat} (h : i < n) (hi : fewO (o i) = false) : fewOs o n = false := by
  unfold fewOs
  rw [Bool.and_eq_false_iff]
  right
  rw [List.all_eq_false]
  exact ⟨i, List.mem_range.2 h, by rw [hi]; simp⟩
set_option maxRecDepth 100000 in
set_option maxHeartbeats 1000000 in
theorem FewOps_any (A : Option Addr) (n c : Nat) (hn : n ≤ maxLen) (o : Nat → OpAt) (w : World) (hA : Row 7 (fun i => (o i).cell) w A n) (ho : ∀ i, i < n → OpIn w (o i)) :
    Calls Try.prog 10 #[.slice A n c] w fun e w' => e = .returned (.bool (fewOs o n)) ∧ Below w.heap.size w w' := by
  unfold maxLen at hn
  have HA := Lib.hid hA; have HO := Lib.hid ho; clear hA ho
  go_enter Try.func10, Try.ntmps10
  go_wp2_with fail
  go_loopw [3, 4] (fun i _ wr => ∃ k : Nat, k ≤ n ∧ k ≤ 41 ∧ i = .int .i64 k ∧ (∀ j, j < k → fewO (o j) = true) ∧ Below w.heap.size w wr) (fun i _ _ => n - (intOf i).toNat)
  case atStart => exact ⟨0, Nat.zero_le _, by omega, rfl, fun j hj => by omega, Below.refl _ _⟩
  case round =>
    obtain ⟨k, hk, hk41, rfl, hall, hb⟩ := hrel
    have HL := Lib.hid hall; have HB := Lib.hid hb; clear hall hb
    by_cases hgo : k < n ∧ k ≤ 40
    · obtain ⟨h1, h2⟩ := hgo
      obtain ⟨ad, rfl, -, cc⟩ := HA.out.at_ HB.out h1
      have x1 : wr.cell? ⟨(ad.add (k * 7)).block, (ad.add (k * 7)).off + 1, none⟩ = some (.slice (o k).la (o k).ln (o k).lc) := cc 1 (by omega) (by omega)
      have x2 : wr.cell? ⟨(ad.add (k * 7)).block, (ad.add (k * 7)).off + 2, none⟩ = some (.slice (o k).ma (o k).mn (o k).mc) := cc 2 (by omega) (by omega)
      have i1 : (k : Int) < (n : Int) := by omega
      have i0 : (0 : Int) ≤ (k : Int) := by omega
      have i2 : (k : Int) ≤ 40 := by omega
      have d1 : decide ((k : Int) < (n : Int)) = true := decide_eq_true i1
      have d2 : decide ((k : Int) ≤ 40) = true := decide_eq_true i2
      have hO := (HO.out k h1).later HB.out
      have HF1 := Lib.hid (Few_any (o k).la (o k).ln (o k).lc hO.lmax (o k).f wr hO.labs)
      have HF2 := Lib.hid (fun W (hb : Below wr.heap.size wr W) => MFew_any (o k).ma (o k).mn (o k).mc hO.mmax (o k).m W (hO.mats.later hb))
      have HX := Lib.hid x2
      have hfo : fewO (o k) = (La.few (o k).f (o k).ln && La.few (Ma.lab (o k).m) (o k).mn) := rfl
      have HNO : Hid (fewO (o k) = false → fewOs o n = false) := Lib.hid (fun h => fewOs_no h1 h)
      have HYES : Hid (fewO (o k) = true → ∀ j, j < k + 1 → fewO (o j) = true) := Lib.hid (fun h j hj => by
        by_cases e : j = k
        · rw [e]; exact h
        · exact HL.out j (by omega))
      have HCL := Lib.hid (fun W (hb : Below wr.heap.size wr W) => show W.cell? ⟨(ad.add (k * 7)).block, (ad.add (k * 7)).off + 2, none⟩ = some (.slice (o k).ma (o k).mn (o k).mc) by
        obtain ⟨a2, e2, -, c2⟩ := HA.out.at_ (below_step HB.out hb) h1
        cases e2
        exact c2 2 (by omega) (by omega))
      clear cc hO HL
      generalize fewO (o k) = r at *
      generalize La.few (o k).f (o k).ln = ra at *
      generalize La.few (Ma.lab (o k).m) (o k).mn = rb at *
      go_wp2_with fail
      refine HF1.out.mono ?_; rintro e w5 ⟨rfl, hb5⟩
      have y2 := HCL.out w5 hb5
      have HF3 := Lib.hid (HF2.out w5 hb5)
      have HB5 := Lib.hid (below_step HB.out hb5); clear hb5 HF2 HCL
      cases ra
      · have HR : Hid (fewOs o n = false) := Lib.hid (HNO.out (by rw [hfo]; rfl))
        clear HNO HYES hfo
        go_wp2_with fail
        go_ret
        exact ⟨by rw [HR.out]; rfl, HB5.out⟩
      · go_wp2_with fail
        refine HF3.out.mono ?_; rintro e w6 ⟨rfl, hb6⟩
        have HB6 := Lib.hid (below_step HB5.out hb6); clear hb6
        cases rb
        · have HR : Hid (fewOs o n = false) := Lib.hid (HNO.out (by rw [hfo]; rfl))
          clear HNO HYES hfo
          go_wp2_with fail
          go_ret
          exact ⟨by rw [HR.out]; rfl, HB6.out⟩
        · have HR := Lib.hid (HYES.out (by rw [hfo]; rfl))
          clear HNO HYES hfo
          go_wp2_with fail
          go_roundw
          case rel => exact ⟨k + 1, by omega, by omega, by go_num, HR.out, HB6.out⟩
          case measure => simp [intOf]; omega
    · by_cases hlt : k < n
      · have i1 : (k : Int) < (n : Int) := by omega
        have d1 : decide ((k : Int) < (n : Int)) = true := decide_eq_true i1
        have d2 : decide ((k : Int) ≤ 40) = false := decide_eq_false (by omega)
        have d3 : decide ((n : Int) ≤ 40) = false := decide_eq_false (by omega)
        have HR : Hid (fewOs o n = false) := Lib.hid (by unfold fewOs; rw [decide_eq_false (by omega)]; rfl)
        go_wp2_with fail
        go_ret
        exact ⟨by rw [HR.out]; rfl, HB.out⟩
      · obtain rfl : k = n := by omega
        have d1 : decide ((k : Int) < (k : Int)) = false := by simp
        by_cases h40 : k ≤ 40
        · have d3 : decide ((k : Int) ≤ 40) = true := decide_eq_true (by omega)
          have HR : Hid (fewOs o k = true) := Lib.hid (by
            unfold fewOs
            rw [decide_eq_true h40, Bool.true_and, List.all_eq_true]
            intro j hj
            exact HL.out j (List.mem_range.1 hj))
          go_wp2_with fail
          go_ret
          exact ⟨by rw [HR.out]; rfl, HB.out⟩
        · have d3 : decide ((k : Int) ≤ 40) = false := decide_eq_false (by omega)
          have HR : Hid (fewOs o k = false) := Lib.hid (by unfold fewOs; rw [decide_eq_false h40]; rfl)
          go_wp2_with fail
          go_ret
          exact ⟨by rw [HR.out]; rfl, HB.out⟩
end Go.Proofs.Ytidfanmfibbiiaa
