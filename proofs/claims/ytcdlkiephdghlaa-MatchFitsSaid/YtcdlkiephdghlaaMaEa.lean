/-
  MatchEach: what Few comes to, the mathematics, and the walk of the law.
-/
import Derived.Test.YtcdlkiephdghlaaMaO
namespace Go.Proofs.Ytcdlkiephdghlaa
open Go.RowKit
namespace Ma
def lab (m : Nat → Mat) (i : Nat) : Lab := ((m i).n, (m i).v)
theorem sel_at {b : Nat → Bool} {i : Nat} (hb : b i = true) : ∀ n, i < n → (sel b i).length < (sel b n).length ∧ (sel b n).getD (sel b i).length 0 = i
  | 0, h => absurd h (Nat.not_lt_zero i)
  | n + 1, h => by
    by_cases hi : i = n
    · subst hi
      rw [sel_yes hb, List.length_append]
      refine ⟨by simp, ?_⟩
      simp [List.getD]
    · obtain ⟨h1, h2⟩ := sel_at hb n (by omega)
      cases hn : b n
      · rw [sel_no hn]; exact ⟨h1, h2⟩
      · rw [sel_yes hn, List.length_append]
        refine ⟨by omega, ?_⟩
        rw [List.getD_eq_getElem?_getD, List.getElem?_append_left h1, ← List.getD_eq_getElem?_getD]; exact h2
theorem sel_step (b : Nat → Bool) (i : Nat) : (sel b (i + 1)).length = (sel b i).length + (if b i = true then 1 else 0) := by
  cases hb : b i
  · rw [sel_no hb]; rfl
  · rw [sel_yes hb]; simp
theorem sel_true (n : Nat) : (sel (fun _ => true) n).length = n := by
  have : ∀ n, sel (fun _ => true) n = List.range n := fun n => by unfold sel; simp
  rw [this, List.length_range]
theorem all_none (m : Nat → Mat) (f : Nat → Lab) (n : Nat) : all m 0 f n = true := rfl
end Ma
theorem one_get : ∀ (L : List Nat) (i : Nat), i < L.length → (L.flatMap fun i : Nat => [Value.int .i64 (i : Int)])[i]? = some (.int .i64 ((L.getD i 0 : Nat) : Int))
  | a :: L, 0, _ => rfl
  | a :: L, i + 1, h => by
    have ih := one_get L i (by simpa using h)
    exact ih
theorem own_ints {w : World} {base e : Nat} {v : Value} {L : List Nat} (h : w.ownsRow base e 1 v L.length (L.flatMap fun i : Nat => [Value.int .i64 (i : Int)])) :
    ∃ A c, v = .slice A L.length c ∧ Row 1 (fun j _ => .int .i64 ((L.getD j 0 : Nat) : Int)) w A L.length := by
  rcases h.2 with ⟨rfl, h0⟩ | ⟨g, cap, cur, rfl, hb, hg, hc, _⟩
  · exact ⟨none, 0, by rw [h0], fun hn => by omega⟩
  · refine ⟨some ⟨g, 0, none⟩, cap, rfl, fun _ => ⟨⟨g, 0, none⟩, rfl, (Array.getElem?_eq_some_iff.1 hg).1, fun i hi j hj => ?_⟩⟩
    obtain rfl : j = 0 := by omega
    rw [Addr.add_lit, Nat.zero_add, World.ownsRow.cellAt h _ (by omega), Nat.mul_one, Nat.add_zero, one_get L i hi]
set_option maxRecDepth 100000 in
set_option maxHeartbeats 1000000 in
theorem MFew_any (A : Option Addr) (n c : Nat) (hn : n ≤ maxLen) (m : Nat → Mat) (w : World) (hA : Row 3 (mx m) w A n) :
    Calls Try.prog 11 #[.slice A n c] w fun e w' => e = .returned (.bool (La.few (Ma.lab m) n)) ∧ Below w.heap.size w w' := by
  unfold maxLen at hn
  have HA := Lib.hid hA; clear hA
  go_enter Try.func11, Try.ntmps11
  go_wp2_with fail
  go_loopw [3] (fun i wr => ∃ k : Nat, k ≤ n ∧ k ≤ 11 ∧ i = .int .i64 k ∧ (∀ j, j < k → (m j).n.size ≤ 300 ∧ (m j).v.size ≤ 300) ∧ Below w.heap.size w wr) (fun i _ => n - (intOf i).toNat)
  case atStart => exact ⟨0, Nat.zero_le _, by omega, rfl, (fun j hj => absurd hj (by omega)), Below.refl _ _⟩
  case round =>
    obtain ⟨k, hk, hk11, rfl, hall, hb⟩ := hrel
    by_cases hgo : k < n ∧ k ≤ 10
    · obtain ⟨h1, h2⟩ := hgo
      obtain ⟨ad, rfl, z0, z1⟩ := HA.out.at_ hb h1
      have c0 : wr.cell? ⟨(ad.add (k * 3)).block, (ad.add (k * 3)).off + 1, none⟩ = some (.string (m k).n) := z1 1 (by omega) (by omega)
      have c1 : wr.cell? ⟨(ad.add (k * 3)).block, (ad.add (k * 3)).off + 2, none⟩ = some (.string (m k).v) := z1 2 (by omega) (by omega)
      clear z0 z1
      have hb2 := Lib.hid hb; clear hb
      have hno : ¬ ((m k).n.size ≤ 300 ∧ (m k).v.size ≤ 300) → La.few (Ma.lab m) n = false := fun h => La.few_no (f := Ma.lab m) (n := n) (k := k) h1 h
      have hnx : (m k).n.size ≤ 300 ∧ (m k).v.size ≤ 300 → ∀ j, j < k + 1 → (m j).n.size ≤ 300 ∧ (m j).v.size ≤ 300 := fun h j hj => by
        rcases Nat.lt_or_ge j k with h3 | h3
        · exact hall j h3
        · rw [show j = k from by omega]; exact h
      have HNO := Lib.hid hno; have HNX := Lib.hid hnx; clear hno hnx hall
      generalize (m k).n = x at *
      generalize (m k).v = y at *
      have i1 : (k : Int) < (n : Int) := by omega
      have i2 : (k : Int) ≤ 10 := by omega
      have d1 : decide ((k : Int) < (n : Int)) = true := by simpa using h1
      have d2 : decide ((k : Int) ≤ 10) = true := by simpa using i2
      by_cases hx : x.size ≤ 300
      · have d3 : decide ((300 : Int) < (x.size : Int)) = false := by simp; omega
        by_cases hy : y.size ≤ 300
        · have d4 : decide ((300 : Int) < (y.size : Int)) = false := by simp; omega
          go_wp2_with fail
          go_roundw
          case rel => exact ⟨k + 1, by omega, by omega, by go_num, HNX.out ⟨hx, hy⟩, hb2.out⟩
          case measure => simp [intOf]; omega
        · have d4 : decide ((300 : Int) < (y.size : Int)) = true := by simp; omega
          go_wp2_with fail
          go_ret
          rw [HNO.out (fun e => hy e.2)]
          exact ⟨rfl, hb2.out⟩
      · have d3 : decide ((300 : Int) < (x.size : Int)) = true := by simp; omega
        go_wp2_with fail
        go_ret
        rw [HNO.out (fun e => hx e.1)]
        exact ⟨rfl, hb2.out⟩
    · by_cases hkn : k < n
      · have d1 : decide ((k : Int) < (n : Int)) = true := by simpa using hkn
        have d2 : decide ((k : Int) ≤ 10) = false := by simp; omega
        have d3 : decide ((n : Int) ≤ 10) = false := by simp; omega
        have hr := La.few_ten (f := Ma.lab m) (n := n) (by omega)
        have HR := Lib.hid hr; clear hr
        go_wp2_with fail
        go_ret
        rw [HR.out]
        exact ⟨rfl, hb⟩
      · have e : k = n := by omega
        subst e
        have d1 : decide ((k : Int) < (k : Int)) = false := by simp
        by_cases h10 : k ≤ 10
        · have hr := La.few_all (f := Ma.lab m) h10 hall
          have d3 : decide ((k : Int) ≤ 10) = true := by simp; omega
          have HR := Lib.hid hr; clear hr
          go_wp2_with fail
          go_ret
          rw [HR.out]
          exact ⟨rfl, hb⟩
        · have hr := La.few_ten (f := Ma.lab m) (n := k) (by omega)
          have d3 : decide ((k : Int) ≤ 10) = false := by simp; omega
          have HR := Lib.hid hr; clear hr
          go_wp2_with fail
          go_ret
          rw [HR.out]
          exact ⟨rfl, hb⟩

set_option maxRecDepth 100000 in
set_option maxHeartbeats 4000000 in
theorem matchEach_walk0 (w : World) (B : Option Addr) (k cm : Nat) (m : Nat → Mat) (hk : k ≤ maxLen) (hB : Row 3 (mx m) w B k) (C : Option Addr) (n c : Nat) (q : Nat → LabS) (hn : n ≤ maxLen) (hC : Row 1 (lx (fun i => (q i).A) (fun i => (q i).n) (fun i => (q i).c)) w C n)
    (hq : ∀ i, i < n → (q i).n ≤ maxLen ∧ (∀ j, j < (q i).n → ((q i).f j).1.size ≤ maxLen ∧ ((q i).f j).2.size ≤ maxLen) ∧ LabRow w (q i).A (q i).n (q i).f) :
    Calls Try.prog 9 #[.slice B k cm, .slice C n c] w fun e w' => e = .returned (.bool true) ∧ Below w.heap.size w w' := by
  have RB := Lib.hid hB; have RC := Lib.hid hC; have RQ := Lib.hid hq; have B0 := Lib.hid (Below.refl w.heap.size w); clear hB hC hq
  have hfew := fun W (hW : Row 3 (mx m) W B k) => MFew_any B k cm hk m W hW
  cases hf : La.few (Ma.lab m) k
  · rw [hf] at hfew
    have HF := Lib.hid hfew; clear hfew hf
    go_enter Try.func9, Try.ntmps9
    go_wp2_with fail
    refine (works_any _).mono ?_; rintro e w1 ⟨rfl, hb1⟩
    have B1 := Lib.hid (below_step B0.out hb1); clear hb1 B0
    go_wp2_with fail
    refine (HF.out _ (RB.out.later B1.out)).mono ?_; rintro e w2 ⟨rfl, hb2⟩
    have B2 := Lib.hid (below_step B1.out hb2); clear hb2 B1
    go_wp2_with fail
    go_ret
    exact ⟨rfl, B2.out⟩
  rw [hf] at hfew
  have hk10 := (La.few_yes hf).1
  have HF := Lib.hid hfew; clear hfew hf
  by_cases h60 : 60 < n
  · have d1 : decide ((60 : Int) < (n : Int)) = true := by simp; omega
    go_enter Try.func9, Try.ntmps9
    go_wp2_with fail
    refine (works_any _).mono ?_; rintro e w1 ⟨rfl, hb1⟩
    have B1 := Lib.hid (below_step B0.out hb1); clear hb1 B0
    go_wp2_with fail
    refine (HF.out _ (RB.out.later B1.out)).mono ?_; rintro e w2 ⟨rfl, hb2⟩
    have B2 := Lib.hid (below_step B1.out hb2); clear hb2 B1
    go_wp2_with fail
    go_ret
    exact ⟨rfl, B2.out⟩
  have d1 : decide ((60 : Int) < (n : Int)) = false := by simp; omega
  go_enter Try.func9, Try.ntmps9
  go_wp2_with fail
  refine (works_any _).mono ?_; rintro e w1 ⟨rfl, hb1⟩
  have B1 := Lib.hid (below_step B0.out hb1); clear hb1 B0
  go_wp2_with fail
  refine (HF.out _ (RB.out.later B1.out)).mono ?_; rintro e w2 ⟨rfl, hb2⟩
  have B2 := Lib.hid (below_step B1.out hb2); clear hb2 B1
  go_wp2_with fail
  go_loopw [7] (fun i wr => ∃ p : Nat, p ≤ n ∧ i = .int .i64 p ∧ (∀ j, j < p → La.few (q j).f (q j).n = true) ∧ Below w.heap.size w wr) (fun i _ => n - (intOf i).toNat)
  case atStart => exact ⟨0, Nat.zero_le _, rfl, (fun j hj => absurd hj (by omega)), B2.out⟩
  case round =>
    obtain ⟨p, hp, rfl, hall, hb⟩ := hrel
    have HE := Lib.hid hall; have HB := Lib.hid hb; clear hall hb B2
    by_cases hlt : p < n
    · obtain ⟨ad, rfl, c0, -⟩ := RC.out.at_ HB.out hlt
      obtain ⟨h1, h2, h3⟩ := RQ.out p hlt
      have e0 : wr.cell? (ad.add p) = some (.slice (q p).A (q p).n (q p).c) := by have := c0 (by omega); rw [Nat.mul_one] at this; exact this
      have hfp := Few_any (q p).A (q p).n (q p).c h1 (q p).f wr (h3.later HB.out)
      have i1 : (p : Int) < (n : Int) := by omega
      have i0 : (0 : Int) ≤ (p : Int) := by omega
      clear c0 h1 h2 h3
      cases hfw : La.few (q p).f (q p).n
      · rw [hfw] at hfp
        have HP := Lib.hid hfp; clear hfp hfw
        generalize (q p).A = qa at *
        generalize (q p).n = qn at *
        generalize (q p).c = qc at *
        go_wp2_with fail
        refine HP.out.mono ?_; rintro e w3 ⟨rfl, hb3⟩
        have HB3 := Lib.hid (below_step HB.out hb3); clear hb3
        go_wp2_with fail
        go_ret
        exact ⟨rfl, HB3.out⟩
      · rw [hfw] at hfp
        have HP := Lib.hid hfp; have HW := Lib.hid hfw; clear hfp hfw
        generalize hqa : (q p).A = qa at *
        generalize hqn : (q p).n = qn at *
        generalize hqc : (q p).c = qc at *
        have HQN := Lib.hid hqn; clear hqa hqn hqc
        go_wp2_with fail
        refine HP.out.mono ?_; rintro e w3 ⟨rfl, hb3⟩
        have HB3 := Lib.hid (below_step HB.out hb3); clear hb3
        go_wp2_with fail
        go_roundw
        case rel => exact ⟨p + 1, by omega, by go_num, fun j hj => (by
          rcases Nat.lt_or_ge j p with h1 | h1
          · exact HE.out j h1
          · obtain rfl : j = p := by omega
            rw [HQN.out]; exact HW.out), HB3.out⟩
        case measure => simp [intOf]; omega
    · obtain rfl : p = n := by omega
      have i1 : ¬ (p : Int) < (p : Int) := by omega
      have hq10 : ∀ i, i < p → (q i).n ≤ 1000000 := fun i hi => by have := (La.few_yes (HE.out i hi)).1; omega
      have hbd : ∃ b : Nat → Bool, b = fun i => Ma.all m k (q i).f (q i).n := ⟨_, rfl⟩
      obtain ⟨b, hb⟩ := hbd
      have hsel := Select_any B k cm (by omega) m C p c (by omega) (fun i => (q i).A) (fun i => (q i).n) (fun i => (q i).c) (fun i => (q i).f) hq10 wr (RB.out.later HB.out) (RC.out.later HB.out) (fun i hi => (RQ.out i hi).2.2.later HB.out)
      have hsel0 := fun W (hW : Below w.heap.size w W) => Select_any none 0 0 (by omega) m C p c (by omega) (fun i => (q i).A) (fun i => (q i).n) (fun i => (q i).c) (fun i => (q i).f) hq10 W Row.none (RC.out.later hW) (fun i hi => (RQ.out i hi).2.2.later hW)
      have hall := fun W (hW : Below w.heap.size w W) i (hi : i < p) => All_any B k cm (by omega) m (q i).A (q i).n (q i).c (hq10 i hi) (q i).f W (RB.out.later hW) ((RQ.out i hi).2.2.later hW)
      simp only [Ma.all_none] at hsel0
      rw [← hb] at hsel
      have hbi : ∀ i, Ma.all m k (q i).f (q i).n = b i := fun i => by rw [hb]
      simp only [hbi] at hall
      have hat := fun i hi h => Ma.sel_at (b := b) (i := i) h p hi
      have hstep := Ma.sel_step b
      have htrue := Ma.sel_true p
      have HS := Lib.hid hsel; have HS0 := Lib.hid hsel0; have HALL := Lib.hid hall; have HAT := Lib.hid hat; have HSTEP := Lib.hid hstep; have HTRUE := Lib.hid htrue
      clear hsel hsel0 hall hbi hb hq10 hat hstep htrue
      go_wp2_with fail
      refine HS.out.mono ?_
      rintro e w3 ⟨v, rfl, hown, hb3⟩
      obtain ⟨A3, c3, rfl, hr3⟩ := own_ints hown
      have HB3 := Lib.hid (below_step HB.out hb3); have HR3 := Lib.hid hr3
      clear hown hb3 hr3 HS HB
      have hln := Ma.sel_length b p
      generalize hL : Ma.sel b p = L at *
      have HL := Lib.hid hL; clear hL
      go_wp2_with fail
      go_loopw [10, 11] (fun u i wx => ∃ z : Nat, z ≤ p ∧ i = .int .i64 z ∧ u = .int .i64 ((Ma.sel b z).length : Nat) ∧ Below w3.heap.size w3 wx) (fun _ i _ => p - (intOf i).toNat)
      case atStart => exact ⟨0, Nat.zero_le _, rfl, rfl, Below.refl _ _⟩
      case round =>
        obtain ⟨z, hz, rfl, rfl, hbx⟩ := hrel
        have HBX := Lib.hid hbx; have HBW := Lib.hid (below_step HB3.out hbx); clear hbx
        by_cases hlt : z < p
        · obtain ⟨ad, rfl, c0, -⟩ := RC.out.at_ HBW.out hlt
          have e0 : wr.cell? (ad.add z) = some (.slice (q z).A (q z).n (q z).c) := by have := c0 (by omega); rw [Nat.mul_one] at this; exact this
          have hal := HALL.out wr HBW.out z hlt
          have hst := HSTEP.out z
          have hat := fun h => HAT.out z hlt h
          have i1 : (z : Int) < (p : Int) := by omega
          have i0 : (0 : Int) ≤ (z : Int) := by omega
          generalize hsl : (Ma.sel b z).length = sl at *
          have HSL := Lib.hid hsl
          clear c0 hsl
          generalize (q z).A = qa at *
          generalize (q z).n = qn at *
          generalize (q z).c = qc at *
          cases hbz : b z
          · rw [hbz] at hal hst
            have HA := Lib.hid hal; have HST := Lib.hid hst
            clear hal hst hat hbz
            go_wp2_with fail
            refine HA.out.mono ?_; rintro e w4 ⟨rfl, hb4⟩
            have HB4 := Lib.hid (below_step HBX.out hb4); clear hb4
            go_wp2_with fail
            go_roundw
            case rel => exact ⟨z + 1, by omega, by go_num, by rw [HST.out]; rfl, HB4.out⟩
            case measure => simp [intOf]; omega
          · rw [hbz] at hal hst
            obtain ⟨h1, h2⟩ := hat hbz
            have HA := Lib.hid hal; have HST := Lib.hid hst
            have hr := fun W (hW : Below w3.heap.size w3 W) => HR3.out.at_ hW h1
            have HRR := Lib.hid hr
            have h2i : ((L.getD sl 0 : Nat) : Int) = (z : Int) := by rw [h2]
            have H2 := Lib.hid h2i
            have k1 : decide ((L.length : Int) ≤ (sl : Int)) = false := by simp; omega
            have k2 : ¬ (L.length : Int) ≤ (sl : Int) := by omega
            have k3 : (sl : Int) < (L.length : Int) := by omega
            have k4 : (0 : Int) ≤ (sl : Int) := by omega
            have k5 : sl + 1 ≤ 100 := by omega
            clear hal hst hat hbz hr h2 h2i h1
            go_wp2_with fail
            refine HA.out.mono ?_; rintro e w4 ⟨rfl, hb4⟩
            have HB4 := Lib.hid (below_step HBX.out hb4); clear hb4
            obtain ⟨ad3, rfl, d0, -⟩ := HRR.out w4 HB4.out
            have e3 : w4.cell? (ad3.add sl) = some (.int .i64 (z : Int)) := by have := d0 (by omega); rw [Nat.mul_one, H2.out] at this; exact this
            clear d0 e0
            go_wp2_with fail
            go_roundw
            case rel => exact ⟨z + 1, by omega, by go_num, by rw [HST.out]; go_num, HB4.out⟩
            case measure => simp [intOf]; omega
        · obtain rfl : z = p := by omega
          have i1 : ¬ (z : Int) < (z : Int) := by omega
          have hs := fun W (hW : Below w.heap.size w W) => HS0.out W hW
          rw [HL.out]
          have HB5 := Lib.hid (HBW.out)
          go_wp2_with fail
          refine (HS0.out _ HB5.out).mono ?_
          rintro e w5 ⟨v5, rfl, hown5, hb5⟩
          rw [HTRUE.out] at hown5
          obtain ⟨A5, c5, rfl⟩ := own_formk hown5
          have HB6 := Lib.hid (below_step HB5.out hb5); clear hown5 hb5 hs
          go_wp2_with fail
          go_ret
          exact ⟨rfl, HB6.out⟩
theorem matchEach_walk {H : Type} {enc : TypeId × Value → H} {r : Reach} {b0 : Nat} {v : Value} {d : DataW H} {p : List MemPlace} {r2 : Reach} {b2 : Nat} {v2 : Value} {d2 : DataW H} {p2 : List MemPlace} (w : World)
    (hv : Value.okWide Try.prog w r b0 22 v) (h : DataW.Trod enc Try.prog w 0 (fun _ => true) true 22 v d p) (hv2 : Value.okWide Try.prog w r2 b2 23 v2) (h2 : DataW.Trod enc Try.prog w 0 (fun _ => true) true 23 v2 d2 p2) :
    Calls Try.prog 9 #[v, v2] w fun e w' => e = .returned (.bool true) ∧ Below w.heap.size w w' := by
  obtain ⟨B, k, cm, m, rfl, h1, h3, _, _, hB⟩ := open_mats hv h
  obtain ⟨C, n, c, q, rfl, hn, hC, hq⟩ := open_labss hv2 h2
  exact matchEach_walk0 w B k cm m (Nat.le_trans h1 h3) hB C n c q hn hC hq
end Go.Proofs.Ytcdlkiephdghlaa
