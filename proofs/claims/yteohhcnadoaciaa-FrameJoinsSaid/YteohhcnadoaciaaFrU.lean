/-
  FrameCut: the walk of the law.
-/
import Derived.Test.YteohhcnadoaciaaFrS
import Derived.Outline
import Derived.RangeFuncBox
namespace Go.Proofs.Yteohhcnadoaciaa
open Go.RowKit
namespace Fr
/-- the first k texts of a row -/
def txts (f : Nat → ByteArray) (k : Nat) : List ByteArray := (List.range k).map f
theorem txts_length (f : Nat → ByteArray) (k : Nat) : (txts f k).length = k := by simp [txts]
theorem txts_succ (f : Nat → ByteArray) (k : Nat) : txts f (k + 1) = txts f k ++ [f k] := by simp [txts, List.range_succ]
theorem txts_take (f : Nat → ByteArray) (k m : Nat) (h : m ≤ k) : (txts f k).take m = txts f m := by
  unfold txts
  rw [← List.map_take, List.take_range, Nat.min_eq_left h]
theorem txts_get (f : Nat → ByteArray) (k i : Nat) (h : i < k) : (txts f k).getD i ByteArray.empty = f i := by
  simp [txts, List.getD, h]
theorem txts_mem (f : Nat → ByteArray) (k : Nat) (b : ByteArray) (h : b ∈ txts f k) : ∃ i, i < k ∧ b = f i := by
  simp only [txts, List.mem_map, List.mem_range] at h
  obtain ⟨i, hi, rfl⟩ := h
  exact ⟨i, hi, rfl⟩
/-- where a frame ends -/
def endAt (f : Nat → ByteArray) (k : Nat) : Nat := (puts (txts f k)).size
theorem puts_txts_succ (f : Nat → ByteArray) (k : Nat) : puts (txts f (k + 1)) = puts (txts f k) ++ put (f k) := by rw [txts_succ, puts_snoc]
theorem endAt_succ (f : Nat → ByteArray) (k : Nat) : endAt f (k + 1) = endAt f k + (put (f k)).size := by unfold endAt; rw [puts_txts_succ, ByteArray.size_append]
theorem endAt_le (f : Nat → ByteArray) : ∀ k, (∀ j, j < k → (f j).size ≤ 400) → endAt f k ≤ k * 414
  | 0, _ => by simp [endAt, txts, puts]
  | k + 1, h => by
    have h1 := endAt_le f k (fun j hj => h j (by omega))
    have h2 := h k (by omega)
    have h3 := put_size (f k)
    have h4 := small_le (f k).size
    rw [endAt_succ]; omega
theorem endAt_mono (f : Nat → ByteArray) (k m : Nat) (h : k ≤ m) : endAt f k ≤ endAt f m := by
  induction m with
  | zero => rw [Nat.le_zero.1 h]; exact Nat.le_refl _
  | succ m ih =>
    rcases Nat.lt_or_ge k (m + 1) with h1 | h1
    · have := ih (by omega); rw [endAt_succ]; omega
    · rw [show k = m + 1 from by omega]; exact Nat.le_refl _
/-- all ends, the first one of none -/
def ends (f : Nat → ByteArray) (k : Nat) : List Value := (List.range (k + 1)).map fun j => Value.int .i64 (endAt f j : Nat)
theorem ends_length (f : Nat → ByteArray) (k : Nat) : (ends f k).length = k + 1 := by simp [ends]
theorem ends_succ (f : Nat → ByteArray) (k : Nat) : ends f (k + 1) = ends f k ++ [.int .i64 (endAt f (k + 1) : Nat)] := by
  unfold ends; rw [List.range_succ, List.map_append]; rfl
theorem ends_get (f : Nat → ByteArray) (k i : Nat) (h : i ≤ k) : (ends f k)[i]? = some (.int .i64 (endAt f i : Nat)) := by
  simp [ends, show i < k + 1 from by omega]
end Fr
theorem info_int : (Try.prog.info? 3).map (fun i => (i.zero, i.size, i.bytes)) = some (some (.int .i64 0), 1, 8) := by kernel_rfl

theorem Split_cut (f : Nat → ByteArray) (k m a : Nat) (hk : k ≤ 20) (hle : ∀ j, j < k → (f j).size ≤ 400) (hm : m ≤ k) (h1 : Fr.endAt f m ≤ a) (h2 : m < k → a < Fr.endAt f (m + 1)) (ha : a ≤ Fr.endAt f k) (w : World) :
    Calls Try.prog 16 #[.string ((Fr.puts (Fr.txts f k)).extract 0 a), .int .i64 400] w fun e w' =>
      (∃ A c, e = .returned (.tuple #[.slice A m c, .int .i64 (Fr.endAt f m : Nat), .int .i64 ((if Fr.endAt f m = a then 0 else 1 : Nat) : Int)]) ∧ TxtRow w' A m f) ∧ Below w.heap.size w w' := by
  have hZ : (Fr.puts (Fr.txts f k)).size = Fr.endAt f k := rfl
  have hZl := Fr.endAt_le f k hle
  have hcut := Fr.all_cut 400 (Fr.txts f k) (fun b hb => by
    obtain ⟨i, hi, rfl⟩ := Fr.txts_mem f k b hb
    have := hle i hi
    exact ⟨by omega, by omega⟩) a m (by rw [Fr.txts_length]; exact hm) (by rw [Fr.txts_take f k m hm]; exact h1) (fun h => by
      rw [Fr.txts_length] at h
      rw [Fr.txts_take f k (m + 1) (by omega)]; exact h2 h) (by omega)
  have hpm : (Fr.puts ((Fr.txts f k).take m)).size = Fr.endAt f m := by rw [Fr.txts_take f k m hm]; rfl
  rw [hpm, Fr.txts_take f k m hm] at hcut
  obtain ⟨q1, q2, q3⟩ := hcut
  have hez : ((Fr.puts (Fr.txts f k)).extract 0 a).size = a := by rw [ByteArray.size_extract]; omega
  refine (Split_any ((Fr.puts (Fr.txts f k)).extract 0 a) (by omega) 400 (Lib.hid (by omega)) w).mono ?_
  rintro e w2 ⟨v, rfl, hown, hb⟩
  rw [q1] at hown
  obtain ⟨A, c, rfl, hr⟩ := own_txt hown
  rw [Fr.txts_length] at hr ⊢
  refine ⟨⟨A, c, ?_, fun hn => ?_⟩, hb⟩
  · rw [q3, hez, show a - (Fr.all ((Fr.puts (Fr.txts f k)).extract 0 a) 400).2.size = Fr.endAt f m from by omega]
  · obtain ⟨ad, e1, e2, e3⟩ := hr hn
    exact ⟨ad, e1, e2, fun i hi => (e3 i hi).trans (congrArg (fun x => some (Value.string x)) (Fr.txts_get f m i hi))⟩

set_option maxRecDepth 100000 in
set_option maxHeartbeats 1000000 in
theorem frameCut_walk0 (w : World) (A : Option Addr) (len cap : Nat) (f : Nat → ByteArray) (hlc : len ≤ cap) (hcm : cap ≤ maxLen) (hA0 : A = none → cap = 0) (hA : StrRow w A len f) (at' : Int) (ha : (Lit.int .i64 at').wf = true) :
    Calls Try.prog 5 #[.slice A len cap, .int .i64 at'] w fun e w' => e = .returned (.bool true) ∧ Below w.heap.size w w' := by
  obtain ⟨i0, hi0, hz0, hz1, hz2⟩ := info_parts info_int
  have HCM := Lib.hid hcm; clear hcm
  have hat := i64_bd at' ha
  clear ha
  by_cases hl : len ≤ 20
  · have d1 : decide ((20 : Int) < (len : Int)) = false := by simp; omega
    have HA := Lib.hid hA; have HA0 := Lib.hid hA0; clear hA hA0
    go_enter Try.func5, Try.ntmps5
    go_wp2_with fail
    refine (works_any _).mono ?_; rintro e w1 ⟨rfl, hb1⟩; have HB1 := Lib.hid hb1; clear hb1
    go_wp2_with fail
    have hb2 := HB1.out.alloc HB1.out.size (.cells #[.int .i64 0] 3)
    have hown2 := World.ownsRow_lit (base := w.heap.size) (e := 3) (size := 1) w1 #[.int .i64 0] 1 HB1.out.size (by decide) rfl
    generalize w1.alloc (.cells #[.int .i64 0] 3) = w2 at *
    generalize w1.heap.size = g1 at *
    go_loopw [6, 7, 8] (fun s v i wr => ∃ k : Nat, k ≤ len ∧ i = .int .i64 k ∧ s = .string (Fr.puts (Fr.txts f k)) ∧ wr.ownsRow w.heap.size 3 1 v (k + 1) (Fr.ends f k) ∧ (∀ j, j < k → (f j).size ≤ 400) ∧ Below w.heap.size w wr) (fun _ _ i _ => len - (intOf i).toNat)
    case atStart => exact ⟨0, by omega, rfl, rfl, hown2, (fun j hj => by omega), hb2⟩
    case round =>
      obtain ⟨k, hk, rfl, rfl, hown, hle, hb⟩ := hrel
      obtain ⟨g7, c7, rfl⟩ := ownsRow_succ hown
      have HOWN := Lib.hid hown; have HLE := Lib.hid hle; have HB := Lib.hid hb
      clear hown hle hb
      by_cases hlt : k < len
      · obtain ⟨ad, rfl, c0, hsz⟩ := HA.out.at_ HB.out hlt
        by_cases h4 : (f k).size ≤ 400
        · have d2 : decide ((400 : Int) < ((f k).size : Int)) = false := by simp; omega
          have hP := Put_any (f k) (by omega)
          have hpz := Fr.put_size (f k)
          have hsm := Fr.small_le (f k).size
          have hel := Fr.endAt_le f k HLE.out
          have hnx := Fr.puts_txts_succ f k
          have hen := Fr.ends_succ f k
          have hes := Fr.endAt_succ f k
          have hez : (Fr.puts (Fr.txts f k) ++ Fr.put (f k)).size = Fr.endAt f (k + 1) := by rw [← hnx]; rfl
          have hsum : ¬ 9223372036854775807 < (Fr.puts (Fr.txts f k)).size + (Fr.put (f k)).size := by
            have : (Fr.puts (Fr.txts f k)).size = Fr.endAt f k := rfl
            omega
          have HNX := Lib.hid hnx; have HEN := Lib.hid hen; have HP := Lib.hid hP; have HEL := Lib.hid hel
          clear hnx hen hP hpz hsm hel hes
          generalize hfk : f k = x at *
          generalize hpx : Fr.put x = p at *
          generalize hq : Fr.puts (Fr.txts f k) = q at *
          have HFK := Lib.hid hfk; have HPX := Lib.hid hpx; have HQ := Lib.hid hq; clear hfk hpx hq
          go_wp2_with fail
          refine (HP.out _).mono ?_; rintro e w3 ⟨rfl, hb3⟩
          have HB3 := Lib.hid (below_step HB.out hb3)
          have HOWN3 := Lib.hid (HOWN.out.kept (grown_of_below (row := none) hb3) (by simp [Value.ownBlock]))
          clear hb3
          have hb1' : k + 1 + 1 ≤ maxLen := by unfold maxLen; omega
          have hb2' : (k + 1 + 1) * 8 ≤ 140737488355328 := by omega
          have hb3' : w.heap.size ≤ (w3.alloc (.cells #[.int .i64 ((Fr.endAt f (k + 1) : Nat) : Int)] 3)).heap.size := by have := HB3.out.size; simp; omega
          have B1 := Lib.hid hb1'; have B2 := Lib.hid hb2'; have B3 := Lib.hid hb3'; clear hb1' hb2' hb3'
          generalize hE : Fr.endAt f (k + 1) = E at *
          have HE := Lib.hid hE; clear hE
          go_wp2_with (at_builtin; (refine wpList_append_own _ rfl _ _ 34 rfl w.heap.size 3 i0 (.int .i64 0) 1 8 Try.underlying34 hi0 hz0 hz1 hz2 rfl (by decide) _ _ _ rfl (HOWN3.out.alloc _) ⟨w3.heap.size, 0, none⟩ 1 1 [.int .i64 (E : Int)] rfl rfl (cell_one_new _ _ _) (by simp [Value.oneCell']) B1.out B2.out B3.out ?_); intro v' w4 hown4 hgrow _; have hbb := (HB3.out.alloc HB3.out.size (.cells #[.int .i64 (E : Int)] 3)).grown hgrow (by have := HB3.out.size; simp; omega) (fun b hv => (HOWN3.out.lt b hv).1); have HB4 := Lib.hid hbb; have HOWN4 := Lib.hid hown4; clear hown4 hgrow hbb)
          go_roundw
          case rel =>
            refine ⟨k + 1, by omega, by go_num, by rw [HNX.out], ?_, ?_, HB4.out⟩
            · rw [HEN.out]; exact HOWN4.out
            · intro j hj
              rcases Nat.lt_or_ge j k with h | h
              · exact HLE.out j h
              · rw [show j = k from by omega, HFK.out]; exact h4
          case measure => simp [intOf]; omega
        · have d2 : decide ((400 : Int) < ((f k).size : Int)) = true := by simp; omega
          generalize f k = x at *
          go_wp2_with fail
          go_ret
          exact ⟨rfl, HB.out⟩
      · obtain rfl : k = len := by omega
        have hZ : (Fr.puts (Fr.txts f k)).size = Fr.endAt f k := rfl
        have hZl := Fr.endAt_le f k HLE.out
        obtain ⟨a, ha⟩ : ∃ a : Nat, min (max at' 0) (Fr.endAt f k : Int) = (a : Int) := ⟨(min (max at' 0) (Fr.endAt f k : Int)).toNat, by omega⟩
        have haz : a ≤ Fr.endAt f k := by omega
        have hcells : ∀ m, m ≤ k → wr.cell? ⟨g7, m, none⟩ = some (.int .i64 (Fr.endAt f m : Nat)) := fun m hm => by
          rw [World.ownsRow.cellAt HOWN.out m (by omega), Fr.ends_get f k m hm]
        have HCE := Lib.hid hcells; clear hcells
        generalize hS : Fr.puts (Fr.txts f k) = S at *
        have HS := Lib.hid hS; clear hS
        generalize hZe : Fr.endAt f k = Z at *
        have HZE := Lib.hid hZe; clear hZe
        clear hb2 hown2
        go_upto_region 15 with fail
        go_cut [1] (fun s1 wx => s1 = .int .i64 (a : Int) ∧ wr = wx)
        case first =>
          go_wp2_with fail
          all_goals go_meet
          all_goals exact ⟨by congr 1; omega, rfl⟩
        case rest =>
        obtain ⟨rfl, rfl⟩ := hcut
        go_wp2_with fail
        go_loop [9] (fun n => ∃ m : Nat, m ≤ k ∧ n = .int .i64 m ∧ Fr.endAt f m ≤ a) (fun n => k - (intOf n).toNat)
        case atStart => exact ⟨0, by omega, rfl, by show (Fr.puts (Fr.txts f 0)).size ≤ a; simp [Fr.txts, Fr.puts]⟩
        case round =>
          obtain ⟨m, hmk, rfl, hma⟩ := hrel
          by_cases hmlt : m < k
          · have c1 := HCE.out (m + 1) (by omega)
            have i1 : ((m : Int) + 1).toNat = m + 1 := by omega
            have i2 : (0 : Int) ≤ (m : Int) + 1 := by omega
            have i3 : (m : Int) + 1 < (k : Int) + 1 := by omega
            have HMA := Lib.hid hma; clear hma
            generalize hE1 : Fr.endAt f (m + 1) = E1 at *
            have HE1 := Lib.hid hE1; clear hE1
            by_cases hle : E1 ≤ a
            · go_wp2_with fail
              go_round
              case rel => exact ⟨m + 1, by omega, by go_num, by rw [HE1.out]; exact hle⟩
              case measure => simp [intOf]; omega
            · have hstop : m < k → a < Fr.endAt f (m + 1) := fun _ => by rw [HE1.out]; omega
              have hsc := Split_cut f k m a hl HLE.out hmk HMA.out hstop (by have := HZE.out; omega)
              rw [HS.out] at hsc
              have HSC := Lib.hid hsc; clear hsc hstop
              have hcm := HCE.out m hmk
              have hTA : TxtRow w A m f := (HA.out.txt).less hmk
              have HTA := Lib.hid hTA; clear hTA
              have hmc : m ≤ cap := by omega
              generalize Fr.endAt f m = Em at *
              by_cases hEa : Em = a
              · subst hEa
                simp only [if_true] at HSC
                go_wp2_with fail
                refine (HSC.out _).mono ?_; rintro e w5 ⟨⟨A5, c5, rfl, hr5⟩, hb5⟩
                have HB5 := Lib.hid (below_step HB.out hb5); have HR5 := Lib.hid hr5
                have hcm5 : w5.cell? ⟨g7, m, none⟩ = some (.int .i64 (Em : Int)) := cell_keep hcm hb5
                clear hb5 hr5 hcm
                go_wp2_with fail
                refine (texts_yes A5 A m c5 _ (by unfold maxLen; omega) f f (fun _ _ => rfl) w5 HR5.out (HTA.out.later HB5.out)).mono ?_; rintro e w6 ⟨rfl, hb6⟩
                have HB6 := Lib.hid (below_step HB5.out hb6)
                have hcm6 : w6.cell? ⟨g7, m, none⟩ = some (.int .i64 (Em : Int)) := cell_keep hcm5 hb6
                clear hb6 hcm5
                go_wp2_with fail
                go_ret
                exact ⟨rfl, HB6.out⟩
              · simp only [if_neg hEa] at HSC
                have e3 : ((Em : Int) == (a : Int)) = false := by simp; omega
                go_wp2_with fail
                refine (HSC.out _).mono ?_; rintro e w5 ⟨⟨A5, c5, rfl, hr5⟩, hb5⟩
                have HB5 := Lib.hid (below_step HB.out hb5); have HR5 := Lib.hid hr5
                have hcm5 : w5.cell? ⟨g7, m, none⟩ = some (.int .i64 (Em : Int)) := cell_keep hcm hb5
                clear hb5 hr5 hcm
                go_wp2_with fail
                refine (texts_yes A5 A m c5 _ (by unfold maxLen; omega) f f (fun _ _ => rfl) w5 HR5.out (HTA.out.later HB5.out)).mono ?_; rintro e w6 ⟨rfl, hb6⟩
                have HB6 := Lib.hid (below_step HB5.out hb6)
                have hcm6 : w6.cell? ⟨g7, m, none⟩ = some (.int .i64 (Em : Int)) := cell_keep hcm5 hb6
                clear hb6 hcm5
                go_wp2_with fail
                go_ret
                exact ⟨rfl, HB6.out⟩
          · have hstop : m < k → a < Fr.endAt f (m + 1) := fun h => absurd h hmlt
            have HMA := Lib.hid hma; clear hma
            have hsc := Split_cut f k m a hl HLE.out hmk HMA.out hstop (by have := HZE.out; omega)
            rw [HS.out] at hsc
            have HSC := Lib.hid hsc; clear hsc hstop
            have hcm := HCE.out m hmk
            have hTA : TxtRow w A m f := (HA.out.txt).less hmk
            have HTA := Lib.hid hTA; clear hTA
            have hmc : m ≤ cap := by omega
            generalize Fr.endAt f m = Em at *
            by_cases hEa : Em = a
            · subst hEa
              simp only [if_true] at HSC
              go_wp2_with fail
              refine (HSC.out _).mono ?_; rintro e w5 ⟨⟨A5, c5, rfl, hr5⟩, hb5⟩
              have HB5 := Lib.hid (below_step HB.out hb5); have HR5 := Lib.hid hr5
              have hcm5 : w5.cell? ⟨g7, m, none⟩ = some (.int .i64 (Em : Int)) := cell_keep hcm hb5
              clear hb5 hr5 hcm
              go_wp2_with fail
              refine (texts_yes A5 A m c5 _ (by unfold maxLen; omega) f f (fun _ _ => rfl) w5 HR5.out (HTA.out.later HB5.out)).mono ?_; rintro e w6 ⟨rfl, hb6⟩
              have HB6 := Lib.hid (below_step HB5.out hb6)
              have hcm6 : w6.cell? ⟨g7, m, none⟩ = some (.int .i64 (Em : Int)) := cell_keep hcm5 hb6
              clear hb6 hcm5
              go_wp2_with fail
              go_ret
              exact ⟨rfl, HB6.out⟩
            · simp only [if_neg hEa] at HSC
              have e3 : ((Em : Int) == (a : Int)) = false := by simp; omega
              go_wp2_with fail
              refine (HSC.out _).mono ?_; rintro e w5 ⟨⟨A5, c5, rfl, hr5⟩, hb5⟩
              have HB5 := Lib.hid (below_step HB.out hb5); have HR5 := Lib.hid hr5
              have hcm5 : w5.cell? ⟨g7, m, none⟩ = some (.int .i64 (Em : Int)) := cell_keep hcm hb5
              clear hb5 hr5 hcm
              go_wp2_with fail
              refine (texts_yes A5 A m c5 _ (by unfold maxLen; omega) f f (fun _ _ => rfl) w5 HR5.out (HTA.out.later HB5.out)).mono ?_; rintro e w6 ⟨rfl, hb6⟩
              have HB6 := Lib.hid (below_step HB5.out hb6)
              have hcm6 : w6.cell? ⟨g7, m, none⟩ = some (.int .i64 (Em : Int)) := cell_keep hcm5 hb6
              clear hb6 hcm5
              go_wp2_with fail
              go_ret
              exact ⟨rfl, HB6.out⟩
  · have d1 : decide ((20 : Int) < (len : Int)) = true := by simp; omega
    go_enter Try.func5, Try.ntmps5
    go_wp2_with fail
    refine (works_any _).mono ?_; rintro e w1 ⟨rfl, hb1⟩; have HB1 := Lib.hid hb1; clear hb1
    go_wp2_with fail
    go_ret
    exact ⟨rfl, HB1.out⟩

theorem frameCut_walk {H : Type} {enc : TypeId × Value → H} {r : Reach} {b0 : Nat} {v : Value} {d : DataW H} {p : List MemPlace} (w : World)
    (hv : Value.okWide Try.prog w r b0 33 v) (h : DataW.Trod enc Try.prog w 0 (fun _ => true) true 33 v d p) (at' : Int) (ha : (Lit.int .i64 at').wf = true) :
    Calls Try.prog 5 #[v, .int .i64 at'] w fun e w' => e = .returned (.bool true) ∧ Below w.heap.size w w' := by
  obtain ⟨A, n, c, f, rfl, h1, h2, h3, hA⟩ := open_strs_row Try.underlying33 Try.underlying9 (by kernel_rfl) hv h
  exact frameCut_walk0 w A n c f h1 h2 h3 hA at' ha
end Go.Proofs.Yteohhcnadoaciaa
