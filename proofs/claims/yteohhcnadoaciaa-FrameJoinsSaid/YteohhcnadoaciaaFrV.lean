/-
  FrameJoins: the walk of the law.
-/
import Derived.Test.YteohhcnadoaciaaFrU
import Derived.Laws.AppendOwnNone
namespace Go.Proofs.Yteohhcnadoaciaa
open Go.RowKit

/-- texts of a row behind those of a row of the call's own, be the row nil or not -/
theorem wpList_append_txt {P : Program} {w : World} {ops : Array Oper} {rest : List Oper} {o : Oper} {a : Act} {Q : Exit → Act → World → Prop} (hgd : o.guard = none) (s x : Operand) (t : TypeId)
    (ho : o.op = .call { callee := .builtin .append, args := #[s, x], argTypes := #[t, t] })
    (base : Nat) (e : TypeId) (i : TypeInfo) (ht : P.underlying t = some (.slice e)) (hi : P.info? e = some i) (hz : i.zero = some (.string ByteArray.empty)) (hsize : i.size = 1) (hby : i.bytes = 16)
    (v : Value) (n : Nat) (xs : List Value) (hs : a.eval s = v) (hown : w.ownsRow base e 1 v n xs) (A : Option Addr) (m c : Nat) (f : Nat → ByteArray) (hx : a.eval x = .slice A m c) (hA : A = none → m = 0 ∧ c = 0) (hr : TxtRow w A m f)
    (h63 : n + m ≤ maxLen) (hbytes : (n + m) * 16 ≤ 140737488355328) (hbase : base ≤ w.heap.size)
    (h : ∀ v' w', w'.ownsRow base e 1 v' (n + m) (xs ++ (Fr.txts f m).map Value.string) → w.grownBy w' v.ownBlock → wpList P ops Q rest (a.put o.dst v') w') : wpList P ops Q (o :: rest) a w := by
  cases A with
  | none =>
    obtain ⟨rfl, rfl⟩ := hA rfl
    exact wpList_append_own_none hgd s x t ho base e i 1 ht hi v n xs hs hown hx (h v w (by simpa [Fr.txts] using hown) (grown_refl w _))
  | some ad =>
    refine wpList_append_own w hgd s x t ho base e i (.string ByteArray.empty) 1 16 ht hi hz hsize hby rfl (by decide) v n xs hs hown ad m c ((Fr.txts f m).map Value.string) hx (by simp [Fr.txts]) (fun j u hu => ?_) (fun u hu => ?_) h63 hbytes hbase (fun v' w' h1 h2 _ => h v' w' h1 h2)
    · have hj : j < m := by
        have := (List.getElem?_eq_some_iff.1 hu).1
        simpa [Fr.txts] using this
      obtain ⟨ad', e1, _, hc⟩ := hr (by omega)
      cases e1
      rw [hc j hj]
      simp only [Fr.txts, List.map_map, List.getElem?_map, List.getElem?_range hj] at hu
      exact hu
    · simp only [List.mem_map] at hu
      obtain ⟨b, _, rfl⟩ := hu
      rfl
/-- a row of the call's own, and whether it is nil -/
theorem own_txt2 {w : World} {base : Nat} {e : TypeId} {v : Value} {L : List ByteArray} (h : w.ownsRow base e 1 v L.length (L.map Value.string)) : ∃ A c, v = .slice A L.length c ∧ (A = none → L.length = 0 ∧ c = 0) ∧ TxtRow w A L.length (fun i => L.getD i ByteArray.empty) := by
  obtain ⟨A, c, hv, hr⟩ := own_txt h
  refine ⟨A, c, hv, fun hA => ?_, hr⟩
  subst hA
  rcases h.2 with ⟨rfl, h0⟩ | ⟨g, cap, cur, rfl, _⟩
  · injection hv with _ h1 h2
    exact ⟨h0, h2.symm⟩
  · injection hv with h1
    cases h1
theorem Fr.txts_getD (L : List ByteArray) : Fr.txts (fun i => L.getD i ByteArray.empty) L.length = L := by
  apply List.ext_getElem
  · simp [Fr.txts]
  · intro i h1 h2
    simp [Fr.txts, List.getD, h2]

theorem Fr.run_length (most : Int) : ∀ (f : Nat) (s : ByteArray), (Fr.run most f s).1.length ≤ f ∧ (Fr.run most f s).2.size ≤ s.size
  | 0, s => ⟨Nat.le_refl _, Nat.le_refl _⟩
  | f + 1, s => by
    rw [Fr.run]
    split
    · next h =>
      have h1 := Fr.run_length most f (Fr.get s most).2.1
      have h2 := Fr.get_less s most h
      exact ⟨by simp; omega, by show (Fr.run most f (Fr.get s most).2.1).2.size ≤ _; omega⟩
    · exact ⟨by simp, Nat.le_refl _⟩
theorem Fr.all_size (s : ByteArray) (most : Int) : (Fr.all s most).2.size ≤ s.size := (Fr.run_length most _ s).2
theorem Fr.all_length (s : ByteArray) (most : Int) : (Fr.all s most).1.length ≤ s.size := (Fr.run_length most _ s).1

set_option maxRecDepth 100000 in
set_option maxHeartbeats 1000000 in
theorem frameJoins_walk0 (w : World) (A : Option Addr) (len cap : Nat) (f : Nat → ByteArray) (hlc : len ≤ cap) (hcm : cap ≤ maxLen) (hA0 : A = none → cap = 0) (hA : StrRow w A len f) (s : ByteArray) (hs : s.size ≤ maxLen) :
    Calls Try.prog 8 #[.slice A len cap, .string s] w fun e w' => e = .returned (.bool true) ∧ Below w.heap.size w w' := by
  obtain ⟨i0, hi0, hz0, hz1, hz2⟩ := info_parts info_string
  have HCM := Lib.hid hcm; clear hcm
  by_cases hl : len ≤ 20 ∧ s.size ≤ 400
  · obtain ⟨hl, hl2⟩ := hl
    have d1 : decide ((20 : Int) < (len : Int)) = false := by simp; omega
    have d2 : decide ((400 : Int) < (s.size : Int)) = false := by simp; omega
    have HA := Lib.hid hA; clear hA
    have hA1 : A = none → len = 0 ∧ cap = 0 := fun h => by have := hA0 h; omega
    have HA1 := Lib.hid hA1; clear hA0 hA1
    go_enter Try.func8, Try.ntmps8
    go_wp2_with fail
    refine (works_any _).mono ?_; rintro e w1 ⟨rfl, hb1⟩; have HB1 := Lib.hid hb1; clear hb1
    go_wp2_with fail
    go_loopw [6, 7] (fun t i wr => ∃ k : Nat, k ≤ len ∧ i = .int .i64 k ∧ t = .string (Fr.puts (Fr.txts f k)) ∧ (∀ j, j < k → (f j).size ≤ 400) ∧ Below w.heap.size w wr) (fun _ i _ => len - (intOf i).toNat)
    case atStart => exact ⟨0, by omega, rfl, rfl, (fun j hj => by omega), HB1.out⟩
    case round =>
      obtain ⟨k, hk, rfl, rfl, hle, hb⟩ := hrel
      have HLE := Lib.hid hle; have HB := Lib.hid hb
      clear hle hb
      by_cases hlt : k < len
      · obtain ⟨ad, rfl, c0, hsz⟩ := HA.out.at_ HB.out hlt
        by_cases h4 : (f k).size ≤ 400
        · have d3 : decide ((400 : Int) < ((f k).size : Int)) = false := by simp; omega
          have hP := Put_any (f k) (by omega)
          have hpz := Fr.put_size (f k)
          have hsm := Fr.small_le (f k).size
          have hel := Fr.endAt_le f k HLE.out
          have hnx := Fr.puts_txts_succ f k
          have hsum : ¬ 9223372036854775807 < (Fr.puts (Fr.txts f k)).size + (Fr.put (f k)).size := by
            have : (Fr.puts (Fr.txts f k)).size = Fr.endAt f k := rfl
            omega
          have HNX := Lib.hid hnx; have HP := Lib.hid hP
          clear hnx hP hpz hsm hel
          generalize hfk : f k = x at *
          generalize hpx : Fr.put x = p at *
          generalize hq : Fr.puts (Fr.txts f k) = q at *
          have HFK := Lib.hid hfk; have HPX := Lib.hid hpx; have HQ := Lib.hid hq; clear hfk hpx hq
          go_wp2_with fail
          refine (HP.out _).mono ?_; rintro e w3 ⟨rfl, hb3⟩
          have HB3 := Lib.hid (below_step HB.out hb3)
          clear hb3
          go_wp2_with fail
          go_roundw
          case rel =>
            refine ⟨k + 1, by omega, by go_num, by rw [HNX.out], ?_, HB3.out⟩
            intro j hj
            rcases Nat.lt_or_ge j k with h | h
            · exact HLE.out j h
            · rw [show j = k from by omega, HFK.out]; exact h4
          case measure => simp [intOf]; omega
        · have d3 : decide ((400 : Int) < ((f k).size : Int)) = true := by simp; omega
          generalize f k = x at *
          go_wp2_with fail
          go_ret
          exact ⟨rfl, HB.out⟩
      · obtain rfl : k = len := by omega
        have hZl := Fr.endAt_le f k HLE.out
        have hZ : (Fr.puts (Fr.txts f k)).size = Fr.endAt f k := rfl
        have hjoin := Fr.all_puts 400 s (Fr.txts f k) (fun b hb => by
          obtain ⟨i, hi, rfl⟩ := Fr.txts_mem f k b hb
          have := HLE.out i hi
          exact ⟨by omega, by omega⟩)
        have hS1 := Split_any s (by omega) 400 (Lib.hid (by omega))
        have hS2 := Split_any (Fr.puts (Fr.txts f k) ++ s) (by rw [ByteArray.size_append]; omega) 400 (Lib.hid (by omega))
        unfold Splits at hS1 hS2
        rw [hjoin] at hS2
        simp only [ByteArray.size_append] at hS2
        have hrz : (Fr.all s 400).2.size ≤ s.size := Fr.all_size s 400
        have hlen : (Fr.all s 400).1.length ≤ s.size := Fr.all_length s 400
        generalize hL : (Fr.all s 400).1 = L at *
        generalize (Fr.all s 400).2.size = rz at *
        generalize Fr.shape (Fr.all s 400).2 400 = sh at *
        generalize Fr.puts (Fr.txts f k) = ah at *
        have hsum : ¬ 9223372036854775807 < ah.size + s.size := by omega
        have e1 : ((s.size - rz : Nat) : Int) = (s.size : Int) - (rz : Int) := by omega
        have e2 : ((ah.size + s.size - rz : Nat) : Int) = (ah.size : Int) + ((s.size : Int) - (rz : Int)) := by omega
        rw [e1] at hS1
        rw [e2] at hS2
        have H1 := Lib.hid hS1; have H2 := Lib.hid hS2; have HZ := Lib.hid hZ; have HL := Lib.hid hL
        clear hS1 hS2 hZ hjoin e1 e2 hL
        go_wp2_with fail
        refine (H1.out _).mono ?_; rintro e w5 ⟨v5, rfl, hown5, hb5⟩
        obtain ⟨A5, c5, rfl, hN5, hr5⟩ := own_txt2 hown5
        have HB5 := Lib.hid (below_step HB.out hb5); have HR5 := Lib.hid hr5; have HN5 := Lib.hid hN5
        clear hown5 hb5 hr5 hN5
        go_wp2_with fail
        refine (H2.out _).mono ?_; rintro e w6 ⟨v6, rfl, hown6, hb6⟩
        have hown6' : w6.ownsRow w5.heap.size 9 1 v6 (Fr.txts f k ++ L).length ((Fr.txts f k ++ L).map Value.string) := hown6
        obtain ⟨A6, c6, rfl, hN6, hr6⟩ := own_txt2 hown6'
        have HB6 := Lib.hid (below_step HB5.out hb6); have HR6 := Lib.hid hr6; have HR56 := Lib.hid (HR5.out.later hb6)
        clear hown6 hown6' hb6 hr6 hN6
        have hLL : (Fr.txts f k ++ L).length = k + L.length := by rw [List.length_append, Fr.txts_length]
        rw [hLL] at HR6 ⊢
        have hb1' : 0 + k ≤ maxLen := by unfold maxLen; omega
        have hb2' : (0 + k) * 16 ≤ 140737488355328 := by omega
        have hb3' : 0 + k + L.length ≤ maxLen := by unfold maxLen; omega
        have hb4' : (0 + k + L.length) * 16 ≤ 140737488355328 := by omega
        have B1 := Lib.hid hb1'; have B2 := Lib.hid hb2'; have B3 := Lib.hid hb3'; have B4 := Lib.hid hb4'
        have HLL := Lib.hid hLL
        clear hb1' hb2' hb3' hb4' hLL
        go_wp2_with (first
          | (at_builtin; (refine wpList_append_txt rfl (.tmp 61) (.tmp 62) 33 rfl w6.heap.size 9 i0 Try.underlying33 hi0 hz0 hz1 hz2 (.slice none 0 0) 0 [] rfl (World.ownsRow_nil _ _ _ _) A k cap f rfl HA1.out (HA.out.txt.later HB6.out) B1.out B2.out (Nat.le_refl _) ?_); intro v7 w7 hown7 hg7; have HB67 := Lib.hid ((Below.refl w6.heap.size w6).grown hg7 (Nat.le_refl _) (by simp [Value.ownBlock])); have HOWN7 := Lib.hid hown7; clear hown7 hg7)
          | (at_builtin; (refine wpList_append_txt rfl (.tmp 64) (.tmp 65) 33 rfl w6.heap.size 9 i0 Try.underlying33 hi0 hz0 hz1 hz2 v7 (0 + k) _ rfl HOWN7.out A5 L.length c5 (fun i => L.getD i ByteArray.empty) rfl HN5.out (HR56.out.later HB67.out) B3.out B4.out HB67.out.size ?_); intro v8 w8 hown8 hg8; have HB68 := Lib.hid (HB67.out.grown hg8 HB67.out.size (fun b hv => (HOWN7.out.lt b hv).1)); have HOWN8 := Lib.hid hown8; clear hown8 hg8))
        have hown8 : w8.ownsRow w6.heap.size 9 1 v8 (Fr.txts f k ++ L).length ((Fr.txts f k ++ L).map Value.string) := by
          have h := HOWN8.out
          rw [Fr.txts_getD] at h
          rw [HLL.out, List.map_append]
          simpa using h
        obtain ⟨A8, c8, rfl, hr8⟩ := own_txt hown8
        rw [HLL.out] at hr8 ⊢
        have HB8 := Lib.hid (HB6.out.trans (HB68.out.mono HB6.out.size))
        refine (texts_yes A6 A8 (k + L.length) c6 c8 (by unfold maxLen; omega) _ _ (fun _ _ => rfl) w8 (HR6.out.later HB68.out) hr8).mono ?_; rintro e w9 ⟨rfl, hb9⟩
        have HB9 := Lib.hid (below_step HB8.out hb9)
        clear hb9 hown8 hr8
        go_wp2_with fail
        go_ret
        exact ⟨rfl, HB9.out⟩
  · have hd : decide ((20 : Int) < (len : Int)) = true ∨ (decide ((20 : Int) < (len : Int)) = false ∧ decide ((400 : Int) < (s.size : Int)) = true) := by
      by_cases h : len ≤ 20
      · right; simp at hl; simp; omega
      · left; simp; omega
    clear hl
    rcases hd with d1 | ⟨d1, d2⟩
    all_goals
      go_enter Try.func8, Try.ntmps8
      go_wp2_with fail
      refine (works_any _).mono ?_; rintro e w1 ⟨rfl, hb1⟩; have HB1 := Lib.hid hb1; clear hb1
      go_wp2_with fail
      go_ret
      exact ⟨rfl, HB1.out⟩

theorem frameJoins_walk {H : Type} {enc : TypeId × Value → H} {r : Reach} {b0 : Nat} {v : Value} {d : DataW H} {p : List MemPlace} (w : World)
    (hv : Value.okWide Try.prog w r b0 33 v) (h : DataW.Trod enc Try.prog w 0 (fun _ => true) true 33 v d p) (s : ByteArray) (hs : s.size ≤ maxLen) :
    Calls Try.prog 8 #[v, .string s] w fun e w' => e = .returned (.bool true) ∧ Below w.heap.size w w' := by
  obtain ⟨A, n, c, f, rfl, h1, h2, h3, hA⟩ := open_strs_row Try.underlying33 Try.underlying9 (by kernel_rfl) hv h
  exact frameJoins_walk0 w A n c f h1 h2 h3 hA s hs
end Go.Proofs.Yteohhcnadoaciaa
