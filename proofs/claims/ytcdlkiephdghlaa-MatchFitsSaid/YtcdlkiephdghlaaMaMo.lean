/-
  MatchMore: appends of matchers, the mathematics, and the walk of the law.
-/
import Derived.Test.YtcdlkiephdghlaaMaEa
import Derived.Test.YtcdlkiephdghlaaMaI
import Derived.Laws.AppendOwnNone
namespace Go.Proofs.Ytcdlkiephdghlaa
open Go.RowKit
namespace Ma
def mcells (m : Nat → Mat) (n : Nat) : List Value := (List.range n).flatMap fun i => [mx m i 0, mx m i 1, mx m i 2]
theorem mcells_succ (m : Nat → Mat) (n : Nat) : mcells m (n + 1) = mcells m n ++ [mx m n 0, mx m n 1, mx m n 2] := by
  unfold mcells; rw [List.range_succ, List.flatMap_append]; simp
theorem mcells_length (m : Nat → Mat) : ∀ n, (mcells m n).length = n * 3
  | 0 => rfl
  | n + 1 => by rw [mcells_succ, List.length_append, mcells_length m n]; simp; omega
theorem mcells_get (m : Nat → Mat) : ∀ (n i j : Nat), i < n → j < 3 → (mcells m n)[i * 3 + j]? = some (mx m i j)
  | 0, _, _, h, _ => absurd h (Nat.not_lt_zero _)
  | n + 1, i, j, h, hj => by
    rw [mcells_succ]
    by_cases hi : i < n
    · rw [List.getElem?_append_left (by rw [mcells_length]; omega)]
      exact mcells_get m n i j hi hj
    · obtain rfl : i = n := by omega
      rw [List.getElem?_append_right (by rw [mcells_length]; omega), mcells_length, show i * 3 + j - i * 3 = j from by omega]
      rcases (show j = 0 ∨ j = 1 ∨ j = 2 by omega) with rfl | rfl | rfl <;> rfl
theorem mcells_one (m : Nat → Mat) (n : Nat) : ∀ u ∈ mcells m n, u.oneCell' = true := by
  intro u hu
  unfold mcells at hu
  obtain ⟨i, _, h⟩ := List.mem_flatMap.1 hu
  simp only [List.mem_cons, List.not_mem_nil, or_false] at h
  rcases h with rfl | rfl | rfl <;> exact mx_one m i _
def join (a : Nat → Mat) (na : Nat) (b : Nat → Mat) (i : Nat) : Mat := if i < na then a i else b (i - na)
theorem all_iff (m : Nat → Mat) (k : Nat) (f : Nat → Lab) (n : Nat) : all m k f n = true ↔ ∀ i, i < k → fits (m i) f n = true := by
  unfold all
  rw [decide_eq_true_eq]
  constructor
  · intro h i hi
    cases hb : fits (m i) f n with
    | true => rfl
    | false =>
      have h2 := sel_split (fun i => fits (m i) f n) k
      have h3 := sel_at (b := fun i => !fits (m i) f n) (i := i) (by simp [hb]) k hi
      omega
  · intro h
    rw [sel_all k (fun i hi => h i hi), List.length_range]
theorem all_join (a b : Nat → Mat) (na nb : Nat) (f : Nat → Lab) (n : Nat) : all (join a na b) (na + nb) f n = (all a na f n && all b nb f n) := by
  rw [Bool.eq_iff_iff, Bool.and_eq_true, all_iff, all_iff, all_iff]
  constructor
  · intro h
    refine ⟨fun i hi => ?_, fun i hi => ?_⟩
    · have := h i (by omega); unfold join at this; rwa [if_pos hi] at this
    · have := h (na + i) (by omega); unfold join at this
      rwa [if_neg (by omega), show na + i - na = i from by omega] at this
  · rintro ⟨h1, h2⟩ i hi
    unfold join
    by_cases h : i < na
    · rw [if_pos h]; exact h1 i h
    · rw [if_neg h]; exact h2 _ (by omega)
end Ma
theorem infoX2 : (Try.prog.info? 32).map (fun i => (i.zero, i.size, i.bytes)) = some (some (.agg #[.int .i64 0, .string ByteArray.empty, .string ByteArray.empty]), 3, 40) := by kernel_rfl
theorem wpList_append_mats {ops : Array Oper} {rest : List Oper} {o : Oper} {a : Act} {Q : Exit → Act → World → Prop} (w : World) (hgd : o.guard = none) (s x : Operand)
    (ho : o.op = .call { callee := .builtin .append, args := #[s, x], argTypes := #[22, 22] })
    (base : Nat) (v : Value) (n0 : Nat) (xs : List Value) (hs : a.eval s = v) (hown : w.ownsRow base 32 3 v n0 xs)
    (A : Option Addr) (n c : Nat) (m : Nat → Mat) (hx : a.eval x = .slice A n c) (hA : Row 3 (mx m) w A n) (hnone : A = none → n = 0 ∧ c = 0) (hsz : n0 + n ≤ 1000) (hbase : base ≤ w.heap.size)
    (h : ∀ v' w', w'.ownsRow base 32 3 v' (n0 + n) (xs ++ Ma.mcells m n) → w.grownBy w' v.ownBlock → wpList Try.prog ops Q rest (a.put o.dst v') w') : wpList Try.prog ops Q (o :: rest) a w := by
  obtain ⟨i0, hi0, hz0, hz1, hz2⟩ := info_parts infoX2
  cases A with
  | none =>
    obtain ⟨rfl, rfl⟩ := hnone rfl
    refine wpList_append_own_none hgd s x 22 ho base 32 i0 3 Try.underlying22 hi0 v n0 xs hs hown hx ?_
    exact h v w (by rw [Nat.add_zero]; have e : Ma.mcells m 0 = [] := rfl; rw [e, List.append_nil]; exact hown) (grown_refl _ _)
  | some ad =>
    refine wpList_append_own w hgd s x 22 ho base 32 i0 (.agg #[.int .i64 0, .string ByteArray.empty, .string ByteArray.empty]) 3 40 Try.underlying22 hi0 hz0 hz1 hz2 rfl (by decide) v n0 xs hs hown ad n c (Ma.mcells m n) hx (Ma.mcells_length m n) ?_ (Ma.mcells_one m n) (by unfold maxLen; omega) (by omega) hbase (fun v' w' h1 h2 _ => h v' w' h1 h2)
    intro j u hu
    have hj : j < n * 3 := by
      rcases Nat.lt_or_ge j (n * 3) with h | h
      · exact h
      · rw [List.getElem?_eq_none (by rw [Ma.mcells_length]; exact h)] at hu; cases hu
    obtain ⟨ad2, e, _, hc⟩ := hA (by omega)
    cases e
    have hg := Ma.mcells_get m n (j / 3) (j % 3) (by omega) (by omega)
    rw [show j / 3 * 3 + j % 3 = j from by omega, hu] at hg
    have := hc (j / 3) (by omega) (j % 3) (by omega)
    rw [show j / 3 * 3 + j % 3 = j from by omega] at this
    rw [this]; exact hg.symm
theorem own_mats {w : World} {base e : Nat} {v : Value} {a b : Nat → Mat} {na nb : Nat} (h : w.ownsRow base e 3 v (na + nb) (Ma.mcells a na ++ Ma.mcells b nb)) :
    ∃ A c, v = .slice A (na + nb) c ∧ Row 3 (mx (Ma.join a na b)) w A (na + nb) := by
  rcases h.2 with ⟨rfl, h0⟩ | ⟨g, cap, cur, rfl, hb, hg, hc, _⟩
  · exact ⟨none, 0, by rw [h0], fun hn => by omega⟩
  · refine ⟨some ⟨g, 0, none⟩, cap, rfl, fun _ => ⟨⟨g, 0, none⟩, rfl, (Array.getElem?_eq_some_iff.1 hg).1, fun i hi j hj => ?_⟩⟩
    rw [Addr.add_lit, Nat.zero_add, World.ownsRow.cellAt h _ (by omega)]
    by_cases hi2 : i < na
    · rw [List.getElem?_append_left (by rw [Ma.mcells_length]; omega), Ma.mcells_get a na i j hi2 hj]
      unfold mx Ma.join; rw [if_pos hi2]
    · rw [List.getElem?_append_right (by rw [Ma.mcells_length]; omega), Ma.mcells_length, show i * 3 + j - na * 3 = (i - na) * 3 + j from by omega, Ma.mcells_get b nb (i - na) j (by omega) hj]
      unfold mx Ma.join; rw [if_neg hi2]
set_option maxRecDepth 100000 in
set_option maxHeartbeats 4000000 in
theorem matchMore_walk0 (w : World) (A : Option Addr) (na ca : Nat) (a : Nat → Mat) (hna : na ≤ maxLen) (xa : A = none → na = 0 ∧ ca = 0) (hA : Row 3 (mx a) w A na) (B : Option Addr) (nb cb : Nat) (b : Nat → Mat) (hnb : nb ≤ maxLen) (xb : B = none → nb = 0 ∧ cb = 0) (hB : Row 3 (mx b) w B nb)
    (C : Option Addr) (n c : Nat) (f : Nat → Lab) (hn : n ≤ maxLen) (hL : LabRow w C n f) :
    Calls Try.prog 6 #[.slice A na ca, .slice B nb cb, .slice C n c] w fun e w' => e = .returned (.bool true) ∧ Below w.heap.size w w' := by
  have RA := Lib.hid hA; have RB := Lib.hid hB; have RL := Lib.hid hL; have B0 := Lib.hid (Below.refl w.heap.size w); clear hA hB hL
  have XA := Lib.hid xa; have XB := Lib.hid xb; clear xa xb
  have fa := fun W (hW : Row 3 (mx a) W A na) => MFew_any A na ca hna a W hW
  have fb := fun W (hW : Row 3 (mx b) W B nb) => MFew_any B nb cb hnb b W hW
  have fl := fun W (hW : LabRow W C n f) => Few_any C n c hn f W hW
  cases h1 : La.few (Ma.lab a) na
  · rw [h1] at fa
    have FA := Lib.hid fa; clear fa fb fl h1
    go_enter Try.func6, Try.ntmps6
    go_wp2_with fail
    refine (works_any _).mono ?_; rintro e w1 ⟨rfl, hb1⟩
    have B1 := Lib.hid (below_step B0.out hb1); clear hb1 B0
    go_wp2_with fail
    refine (FA.out _ (RA.out.later B1.out)).mono ?_; rintro e w2 ⟨rfl, hb2⟩
    have B2 := Lib.hid (below_step B1.out hb2); clear hb2 B1
    go_wp2_with fail
    go_ret
    exact ⟨rfl, B2.out⟩
  rw [h1] at fa
  have ka := (La.few_yes h1).1
  have FA := Lib.hid fa; clear fa h1
  cases h2 : La.few (Ma.lab b) nb
  · rw [h2] at fb
    have FB := Lib.hid fb; clear fb fl h2
    go_enter Try.func6, Try.ntmps6
    go_wp2_with fail
    refine (works_any _).mono ?_; rintro e w1 ⟨rfl, hb1⟩
    have B1 := Lib.hid (below_step B0.out hb1); clear hb1 B0
    go_wp2_with fail
    refine (FA.out _ (RA.out.later B1.out)).mono ?_; rintro e w2 ⟨rfl, hb2⟩
    have B2 := Lib.hid (below_step B1.out hb2); clear hb2 B1
    go_wp2_with fail
    refine (FB.out _ (RB.out.later B2.out)).mono ?_; rintro e w3 ⟨rfl, hb3⟩
    have B3 := Lib.hid (below_step B2.out hb3); clear hb3 B2
    go_wp2_with fail
    go_ret
    exact ⟨rfl, B3.out⟩
  rw [h2] at fb
  have kb := (La.few_yes h2).1
  have FB := Lib.hid fb; clear fb h2
  cases h3 : La.few f n
  · rw [h3] at fl
    have FL := Lib.hid fl; clear fl h3
    go_enter Try.func6, Try.ntmps6
    go_wp2_with fail
    refine (works_any _).mono ?_; rintro e w1 ⟨rfl, hb1⟩
    have B1 := Lib.hid (below_step B0.out hb1); clear hb1 B0
    go_wp2_with fail
    refine (FA.out _ (RA.out.later B1.out)).mono ?_; rintro e w2 ⟨rfl, hb2⟩
    have B2 := Lib.hid (below_step B1.out hb2); clear hb2 B1
    go_wp2_with fail
    refine (FB.out _ (RB.out.later B2.out)).mono ?_; rintro e w3 ⟨rfl, hb3⟩
    have B3 := Lib.hid (below_step B2.out hb3); clear hb3 B2
    go_wp2_with fail
    refine (FL.out _ (RL.out.later B3.out)).mono ?_; rintro e w4 ⟨rfl, hb4⟩
    have B4 := Lib.hid (below_step B3.out hb4); clear hb4 B3
    go_wp2_with fail
    go_ret
    exact ⟨rfl, B4.out⟩
  rw [h3] at fl
  have kl := (La.few_yes h3).1
  have FL := Lib.hid fl; clear fl h3
  have KA := fun W (hW : Below w.heap.size w W) => All_any A na ca (by omega) a C n c (by omega) f W (RA.out.later hW) (RL.out.later hW)
  have KB := fun W (hW : Below w.heap.size w W) => All_any B nb cb (by omega) b C n c (by omega) f W (RB.out.later hW) (RL.out.later hW)
  have KJ := fun W (hW : Below w.heap.size w W) X cx (hX : Row 3 (mx (Ma.join a na b)) W X (na + nb)) => All_any X (na + nb) cx (by omega) _ C n c (by omega) f W hX (RL.out.later hW)
  have KT := fun W (hW : Below w.heap.size w W) X cx (hX : Row 3 (mx (Ma.join b nb a)) W X (nb + na)) => All_any X (nb + na) cx (by omega) _ C n c (by omega) f W hX (RL.out.later hW)
  simp only [Ma.all_join] at KJ KT
  generalize Ma.all a na f n = ra at *
  generalize Ma.all b nb f n = rb at *
  have CA := Lib.hid KA; have CB := Lib.hid KB; have CJ := Lib.hid KJ; have CT := Lib.hid KT
  clear KA KB KJ KT
  go_enter Try.func6, Try.ntmps6
  go_wp2_with fail
  refine (works_any _).mono ?_; rintro e w1 ⟨rfl, hb1⟩
  have B1 := Lib.hid (below_step B0.out hb1); clear hb1 B0
  go_wp2_with fail
  refine (FA.out _ (RA.out.later B1.out)).mono ?_; rintro e w2 ⟨rfl, hb2⟩
  have B2 := Lib.hid (below_step B1.out hb2); clear hb2 B1
  go_wp2_with fail
  refine (FB.out _ (RB.out.later B2.out)).mono ?_; rintro e w3 ⟨rfl, hb3⟩
  have B3 := Lib.hid (below_step B2.out hb3); clear hb3 B2
  go_wp2_with fail
  refine (FL.out _ (RL.out.later B3.out)).mono ?_; rintro e w4 ⟨rfl, hb4⟩
  have B4 := Lib.hid (below_step B3.out hb4); clear hb4 B3
  have B5 := Lib.hid (B4.out); clear B4
  have hz4 := World.ownsRow_nil w4 w4.heap.size 32 3
  have Z4 := Lib.hid hz4; clear hz4
  go_upto_region 8 with fail
  go_upto_region 9 with (at_builtin; go_must (refine wpList_append_mats _ rfl _ _ rfl w4.heap.size _ 0 [] rfl Z4.out A na ca a rfl (RA.out.later B5.out) XA.out (by omega) (Nat.le_refl _) ?_); intro v5 w5 hown5 hg5; have O5 := Lib.hid hown5; have G5 := Lib.hid hg5; clear hown5 hg5)
  have hb5 : Below w4.heap.size w4 w5 := (Below.refl _ _).grown G5.out (Nat.le_refl _) (fun r e => by cases e)
  have B6 := Lib.hid (below_step B5.out hb5); have Q5 := Lib.hid hb5
  clear hb5
  go_upto_region 10 with (at_builtin; go_must (refine wpList_append_mats _ rfl _ _ rfl w4.heap.size _ (0 + na) ([] ++ Ma.mcells a na) rfl O5.out B nb cb b rfl (RB.out.later B6.out) XB.out (by omega) (Q5.out.size) ?_); intro v6 w6 hown6 hg6; have O6 := Lib.hid hown6; have G6 := Lib.hid hg6; clear hown6 hg6)
  have hb6 : Below w4.heap.size w4 w6 := Q5.out.grown G6.out Q5.out.size (fun r e => (O5.out.lt r e).1)
  have B7 := Lib.hid (below_step B5.out hb6)
  have hown6 := O6.out
  rw [List.nil_append, Nat.zero_add] at hown6
  obtain ⟨X6, c6, rfl, hr6⟩ := own_mats hown6
  have R6 := Lib.hid hr6
  have hz6 := World.ownsRow_nil w6 w6.heap.size 32 3
  have Z6 := Lib.hid hz6
  clear hz6 hb6 hown6 hr6 O5 O6 G5 G6 Q5 B6 Z4
  go_upto_region 11 with fail
  go_upto_region 12 with (at_builtin; go_must (refine wpList_append_mats _ rfl _ _ rfl w6.heap.size _ 0 [] rfl Z6.out B nb cb b rfl (RB.out.later B7.out) XB.out (by omega) (Nat.le_refl _) ?_); intro v7 w7 hown7 hg7; have O7 := Lib.hid hown7; have G7 := Lib.hid hg7; clear hown7 hg7)
  have hb7 : Below w6.heap.size w6 w7 := (Below.refl _ _).grown G7.out (Nat.le_refl _) (fun r e => by cases e)
  have B8 := Lib.hid (below_step B7.out hb7); have Q7 := Lib.hid hb7
  clear hb7
  go_upto_region 13 with (at_builtin; go_must (refine wpList_append_mats _ rfl _ _ rfl w6.heap.size _ (0 + nb) ([] ++ Ma.mcells b nb) rfl O7.out A na ca a rfl (RA.out.later B8.out) XA.out (by omega) (Q7.out.size) ?_); intro v8 w8 hown8 hg8; have O8 := Lib.hid hown8; have G8 := Lib.hid hg8; clear hown8 hg8)
  have hb8 : Below w6.heap.size w6 w8 := Q7.out.grown G8.out Q7.out.size (fun r e => (O7.out.lt r e).1)
  have B9 := Lib.hid (below_step B7.out hb8); have R8 := Lib.hid (R6.out.later hb8)
  have hown8 := O8.out
  rw [List.nil_append, Nat.zero_add] at hown8
  obtain ⟨X8, c8, rfl, hr8⟩ := own_mats hown8
  have T8 := Lib.hid hr8
  clear hb8 hown8 hr8 O7 O8 G7 G8 Q7 B8 Z6 R6 B7 B5
  go_wp2_with fail
  refine (CA.out _ B9.out).mono ?_; rintro e w9 ⟨rfl, hb9⟩
  have B10 := Lib.hid (below_step B9.out hb9); have R9 := Lib.hid (R8.out.later hb9); have T9 := Lib.hid (T8.out.later hb9); clear hb9 B9 R8 T8
  cases ra
  · go_wp2_with fail
    refine (CJ.out _ B10.out _ _ R9.out).mono ?_; rintro e w10 ⟨rfl, hb10⟩
    have B11 := Lib.hid (below_step B10.out hb10); have T10 := Lib.hid (T9.out.later hb10); clear hb10 B10 R9 T9
    go_wp2_with fail
    refine (CT.out _ B11.out _ _ T10.out).mono ?_; rintro e w11 ⟨rfl, hb11⟩
    have B12 := Lib.hid (below_step B11.out hb11); clear hb11 B11 T10
    cases rb <;>
    · go_wp2_with fail
      go_ret
      exact ⟨rfl, B12.out⟩
  · go_wp2_with fail
    refine (CB.out _ B10.out).mono ?_; rintro e w10 ⟨rfl, hb10⟩
    have B11 := Lib.hid (below_step B10.out hb10); have R10 := Lib.hid (R9.out.later hb10); have T10 := Lib.hid (T9.out.later hb10); clear hb10 B10 R9 T9
    go_wp2_with fail
    refine (CJ.out _ B11.out _ _ R10.out).mono ?_; rintro e w11 ⟨rfl, hb11⟩
    have B12 := Lib.hid (below_step B11.out hb11); have T11 := Lib.hid (T10.out.later hb11); clear hb11 B11 R10 T10
    cases rb <;>
    · go_wp2_with fail
      refine (CT.out _ B12.out _ _ T11.out).mono ?_; rintro e w12 ⟨rfl, hb12⟩
      have B13 := Lib.hid (below_step B12.out hb12); clear hb12 B12 T11
      go_wp2_with fail
      go_ret
      exact ⟨rfl, B13.out⟩
theorem matchMore_walk {H : Type} {enc : TypeId × Value → H} {r : Reach} {b0 : Nat} {v : Value} {d : DataW H} {p : List MemPlace} {r2 : Reach} {b2 : Nat} {v2 : Value} {d2 : DataW H} {p2 : List MemPlace} (w : World)
    (hv : Value.okWide Try.prog w r b0 22 v) (h : DataW.Trod enc Try.prog w 0 (fun _ => true) true 22 v d p) (hv2 : Value.okWide Try.prog w r2 b2 22 v2) (h2 : DataW.Trod enc Try.prog w 0 (fun _ => true) true 22 v2 d2 p2)
    (C : Option Addr) (n c : Nat) (f : Nat → Lab) (hn : n ≤ maxLen) (_hz : ∀ i, i < n → (f i).1.size ≤ maxLen ∧ (f i).2.size ≤ maxLen) (hl : LabRow w C n f) (_hx : C = none → n = 0 ∧ c = 0) (_hq : n ≤ c) :
    Calls Try.prog 6 #[v, v2, .slice C n c] w fun e w' => e = .returned (.bool true) ∧ Below w.heap.size w w' := by
  obtain ⟨A, na, ca, a, rfl, h1, h3, xa, _, hA⟩ := open_mats hv h
  obtain ⟨B, nb, cb, b, rfl, h4, h5, xb, _, hB⟩ := open_mats hv2 h2
  exact matchMore_walk0 w A na ca a (Nat.le_trans h1 h3) xa hA B nb cb b (Nat.le_trans h4 h5) xb hB C n c f hn hl
end Go.Proofs.Ytcdlkiephdghlaa
