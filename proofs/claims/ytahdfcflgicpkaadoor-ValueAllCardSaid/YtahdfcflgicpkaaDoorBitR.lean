/-
  What the functions of the reference alluviumref02 come to.
-/
import Derived.Test.YtahdfcflgicpkaaDoorBitT
namespace Go.Proofs.YtahdfcflgicpkaaDoor
open Go.RowKit

set_option maxRecDepth 100000 in
set_option maxHeartbeats 400000 in
theorem rBits_any (v : Nat) (hv : Hid (v < 18446744073709551616)) (n : Int) (w : World) :
    Calls Tryd.prog 36 #[.int .u64 v, .int .i64 n] w fun e w' => e = .returned (.string (Bit.str (Bit.of v (Bit.wd n)))) ∧ w' = w := by
  have hn : (n < 0 ∧ Bit.wd n = 0) ∨ (0 ≤ n ∧ n ≤ 64 ∧ (Bit.wd n : Int) = n) ∨ (64 < n ∧ Bit.wd n = 64) := by unfold Bit.wd; omega
  have hle := Bit.wd_le n
  generalize Bit.wd n = nn at *
  go_enter Tryd.func36, Tryd.ntmps36
  go_wp2_with fail
  go_loop [0, 5, 6] (fun x s i => ∃ k : Nat, k ≤ nn ∧ i = .int .i64 k ∧ x = .int .u64 ((v / 2 ^ k : Nat) : Int) ∧ s = .string (Bit.str (Bit.of v k))) (fun _ _ i => nn - (intOf i).toNat)
  case atStart => exact ⟨0, by omega, rfl, by simp, rfl⟩
  case round =>
    obtain ⟨k, hk, rfl, rfl, rfl⟩ := hrel
    by_cases hlt : k < nn
    · have d1 : decide ((k : Int) < n) = true := by simp; omega
      have d2 : decide ((k : Int) < 64) = true := by simp; omega
      have hz := Bit.str_size (Bit.of v k)
      rw [Bit.of_length] at hz
      have hq : v / 2 ^ (k + 1) = v / 2 ^ k / 2 := by rw [Nat.pow_succ, Nat.div_div_eq_div_mul]
      have hs1 : (⟨#[49]⟩ : ByteArray) ++ Bit.str (Bit.of v k) = Bit.str (true :: Bit.of v k) := Bit.str_cons true _
      have hs0 : (⟨#[48]⟩ : ByteArray) ++ Bit.str (Bit.of v k) = Bit.str (false :: Bit.of v k) := Bit.str_cons false _
      have hf := Bit.of_front v k
      generalize Bit.str (Bit.of v k) = t at *
      have hy : v / 2 ^ k < 18446744073709551616 := Nat.lt_of_le_of_lt (Nat.div_le_self _ _) hv.out
      generalize v / 2 ^ k = y at *
      have hw : IntKind.u64.wrap ((y : Int) / 2) = (y : Int) / 2 := by rw [IntKind.wrap_u64]; omega
      clear hy
      have HQ := Lib.hid hq; have HF := Lib.hid hf; have HS1 := Lib.hid hs1; have HS0 := Lib.hid hs0; have HN := Lib.hid hn
      clear hq hf hs1 hs0 hn
      rcases Nat.mod_two_eq_zero_or_one y with h | h
      · have e1 : ((y : Int) % 2 == 1) = false := by simp; omega
        have H := Lib.hid h; clear h
        go_wp2_with fail
        go_round
        case rel => exact ⟨k + 1, by omega, by go_num, by rw [HQ.out]; go_num, by rw [HF.out, H.out]; exact congrArg _ HS0.out⟩
        case measure => simp [intOf]; omega
      · have e1 : ((y : Int) % 2 == 1) = true := by simp; omega
        have H := Lib.hid h; clear h
        go_wp2_with fail
        go_round
        case rel => exact ⟨k + 1, by omega, by go_num, by rw [HQ.out]; go_num, by rw [HF.out, H.out]; exact congrArg _ HS1.out⟩
        case measure => simp [intOf]; omega
    · have hkn : k = nn := by omega
      have hd : decide ((k : Int) < n) = false ∨ (decide ((k : Int) < n) = true ∧ decide ((k : Int) < 64) = false) := by simp only [decide_eq_true_eq, decide_eq_false_iff_not]; omega
      have HK := Lib.hid hkn; clear hkn hn hlt
      rcases hd with d1 | ⟨d1, d2⟩
      all_goals
        go_wp2_with fail
        go_ret
        have hk := HK.out
        subst hk
        exact ⟨rfl, rfl⟩

set_option maxRecDepth 100000 in
set_option maxHeartbeats 400000 in
theorem rNumber_any (B : List Bool) (hB : B.length ≤ 64) (w : World) :
    Calls Tryd.prog 39 #[.string (Bit.str B)] w fun e w' => e = .returned (.int .u64 (Bit.val B : Nat)) ∧ w' = w := by
  have hz := Bit.str_size B
  generalize hS : Bit.str B = s at *
  have HS := Lib.hid hS; clear hS
  go_enter Tryd.func39, Tryd.ntmps39
  have hs64 : s.size ≤ 64 := by omega
  have HZ := Lib.hid hz; clear hz
  go_wp2_with fail
  go_loop [3, 4] (fun x i => ∃ k : Nat, k ≤ s.size ∧ i = .int .i64 k ∧ x = .int .u64 (Bit.val (B.take k) : Nat)) (fun _ i => s.size - (intOf i).toNat)
  case atStart => exact ⟨0, by omega, rfl, rfl⟩
  case round =>
    obtain ⟨k, hk, rfl, rfl⟩ := hrel
    by_cases hlt : k < s.size
    · have hg : s[k] = Bit.chr (B.getD k false) := by
        have := HS.out
        subst this
        exact Bit.str_get B k hlt
      have hst := Bit.val_take_succ B k (by have := HZ.out; omega)
      have hl1 := Bit.val_take_lt B k
      have hl2 := Bit.val_take_lt B (k + 1)
      have hp : 2 ^ (k + 1) ≤ 2 ^ 64 := Bit.two_pow_le (by omega)
      have hw1 : IntKind.u64.wrap ((Bit.val (B.take k) : Nat) * 2 : Int) = ((Bit.val (B.take k) * 2 : Nat) : Int) := by rw [IntKind.wrap_u64]; omega
      have hw2 : B.getD k false = true → IntKind.u64.wrap (((Bit.val (B.take k) * 2 : Nat) : Int) + 1) = ((Bit.val (B.take (k + 1)) : Nat) : Int) := fun h => by rw [h] at hst; simp at hst; rw [IntKind.wrap_u64]; omega
      generalize hx : Bit.val (B.take k) = x at *
      generalize hy : Bit.val (B.take (k + 1)) = y at *
      generalize B.getD k false = b at *
      have HST := Lib.hid hst; have HY := Lib.hid hy
      clear hst hl1 hl2 hp hx hy
      cases b with
      | true =>
        have hw3 := hw2 rfl
        have e1 : ((s[k].toNat : Int) == 49) = true := by rw [hg]; rfl
        clear hw2 hg
        generalize hd : x * 2 = d at *
        have HD := Lib.hid hd; clear hd
        go_wp2_with fail
        go_round
        case rel => exact ⟨k + 1, by omega, by go_num, by rw [HY.out]⟩
        case measure => simp [intOf]; omega
      | false =>
        have e1 : ((s[k].toNat : Int) == 49) = false := by rw [hg]; rfl
        clear hw2 hg
        go_wp2_with fail
        go_round
        case rel => exact ⟨k + 1, by omega, by go_num, by rw [HY.out, HST.out]; simp⟩
        case measure => simp [intOf]; omega
    · go_wp2_with fail
      go_ret
      exact ⟨ret_int (by rw [List.take_of_length_le (by have := HZ.out; omega)]), rfl⟩

set_option maxRecDepth 100000 in
set_option maxHeartbeats 400000 in
theorem rOf_any (b : ByteArray) (hb : b.size ≤ 60) (w : World) :
    Calls Tryd.prog 22 #[.string b] w fun e w' => e = .returned (.string (Bit.str (Bit.bits b))) ∧ w' = w := by
  go_enter Tryd.func22, Tryd.ntmps22
  go_wp2_with fail
  go_loop [3, 4] (fun s i => ∃ k : Nat, k ≤ b.size ∧ i = .int .i64 k ∧ s = .string (Bit.str (Bit.un (b.data.toList.take k)))) (fun _ i => b.size - (intOf i).toNat)
  case atStart => exact ⟨0, by omega, rfl, rfl⟩
  case round =>
    obtain ⟨k, hk, rfl, rfl⟩ := hrel
    by_cases hlt : k < b.size
    · have hz := Bit.str_size (Bit.un (b.data.toList.take k))
      have hz2 := Bit.un_length (b.data.toList.take k)
      have hz3 : (b.data.toList.take k).length ≤ k := List.length_take_le _ _
      have hs := Bit.un_take_succ b.data.toList k (by simpa using hlt)
      have he : (b.data.toList[k]'(by simpa using hlt)) = b[k] := rfl
      rw [he] at hs
      have hap := Bit.str_append (Bit.un (b.data.toList.take k)) (Bit.of b[k].toNat 8)
      rw [← hs] at hap
      have hby := b[k].toNat_lt
      have hc := fun W => rBits_any b[k].toNat (Lib.hid (by omega)) 8 W
      have hw8 : Bit.wd 8 = 8 := rfl
      rw [hw8] at hc
      have hz4 : (Bit.str (Bit.of b[k].toNat 8)).size = 8 := by rw [Bit.str_size, Bit.of_length]
      have hwr : IntKind.u64.wrap ((b[k].toNat : Nat) : Int) = ((b[k].toNat : Nat) : Int) := by rw [IntKind.wrap_u64]; omega
      generalize Bit.str (Bit.of b[k].toNat 8) = t8 at *
      generalize Bit.str (Bit.un (b.data.toList.take k)) = t at *
      have HC := Lib.hid hc; have HAP := Lib.hid hap
      have hsz : t.size ≤ 480 := by omega
      have hsz8 : t8.size ≤ 8 := by omega
      clear hc hap hs hz hz2 hz3 he hw8 hz4
      go_wp2_with fail
      refine (HC.out _).mono ?_; rintro e wx ⟨rfl, rfl⟩
      go_wp2_with fail
      go_round
      case rel => exact ⟨k + 1, by omega, by go_num, by rw [← HAP.out]⟩
      case measure => simp [intOf]; omega
    · go_wp2_with fail
      have hq : Bit.un (b.data.toList.take k) = Bit.bits b := by unfold Bit.bits; rw [List.take_of_length_le (by simp; omega)]
      rw [hq]
      go_ret
      exact ⟨rfl, rfl⟩

set_option maxRecDepth 100000 in
set_option maxHeartbeats 400000 in
theorem rClean_any (B : List Bool) (hB : B.length ≤ 480) (w : World) (o : Bool) (ho : o = (decide (B.length < 8) && decide (Bit.val B = 0))) :
    Calls Tryd.prog 25 #[.string (Bit.str B)] w fun e w' => e = .returned (.bool o) ∧ w' = w := by
  have hz := Bit.str_size B
  generalize hS : Bit.str B = s at *
  have HS := Lib.hid hS; have HO := Lib.hid ho; clear hS ho
  have hs48 : s.size ≤ 480 := by omega
  have HZ := Lib.hid hz; clear hz
  go_enter Tryd.func25, Tryd.ntmps25
  go_wp2_with fail
  go_loop [3] (fun i => ∃ k : Nat, k ≤ s.size ∧ i = .int .i64 k ∧ Bit.val (B.take k) = 0) (fun i => s.size - (intOf i).toNat)
  case atStart => exact ⟨0, by omega, rfl, rfl⟩
  case round =>
    obtain ⟨k, hk, rfl, h0⟩ := hrel
    by_cases hlt : k < s.size
    · have hg : s[k] = Bit.chr (B.getD k false) := by
        have := HS.out
        subst this
        exact Bit.str_get B k hlt
      have hst := Bit.val_take_succ B k (by have := HZ.out; omega)
      have hps := Bit.val_pos_of B k (by have := HZ.out; omega)
      rw [h0] at hst
      generalize B.getD k false = b at *
      have HST := Lib.hid hst; have H0 := Lib.hid h0; clear hst h0
      cases b with
      | true =>
        have e1 : ((s[k].toNat : Int) == 48) = false := by rw [hg]; rfl
        have e2 : ((s[k].toNat : Int) != 48) = true := by rw [hg]; rfl
        have hv := Lib.hid (hps rfl)
        clear hg hps
        go_wp2_with fail
        go_ret
        have ho := HO.out
        rw [decide_eq_false (by have := hv.out; omega : ¬ Bit.val B = 0), Bool.and_false] at ho
        subst ho
        exact ⟨rfl, rfl⟩
      | false =>
        have e1 : ((s[k].toNat : Int) == 48) = true := by rw [hg]; rfl
        have e2 : ((s[k].toNat : Int) != 48) = false := by rw [hg]; rfl
        clear hg hps
        go_wp2_with fail
        go_round
        case rel => exact ⟨k + 1, by omega, by go_num, by rw [HST.out]; simp⟩
        case measure => simp [intOf]; omega
    · rw [List.take_of_length_le (by have := HZ.out; omega)] at h0
      have H0 := Lib.hid h0; clear h0
      go_wp2_with fail
      go_ret
      have ho := HO.out
      rw [decide_eq_true H0.out, Bool.and_true] at ho
      subst ho
      refine ⟨?_, rfl⟩
      rw [← HZ.out]
      first | rfl | (simp; omega)

set_option maxRecDepth 100000 in
set_option maxHeartbeats 1000000 in
theorem rBytes_any (B : List Bool) (hB : B.length ≤ 8000) (w : World) :
    Calls Tryd.prog 28 #[.string (Bit.str B)] w fun e w' => e = .returned (.string (Bit.text B)) ∧ Below w.heap.size w w' := by
  obtain ⟨i0, hi, hz0, hz1, hz2⟩ := info_parts Tryd.info_u8
  go_enter Tryd.func28, Tryd.ntmps28
  go_wp2_with fail
  go_loop [0] (fun s => ∃ C : List Bool, s = .string (Bit.str C) ∧ Bit.pack C = Bit.pack B ∧ C.length ≤ (B.length + 7) / 8 * 8) (fun s => (8 - strLen s % 8) % 8)
  case atStart => exact ⟨B, rfl, rfl, by omega⟩
  case round =>
    obtain ⟨C, rfl, hpk, hC⟩ := hrel
    have hz := Bit.str_size C
    by_cases h8 : C.length % 8 = 0
    · have e1 : (((Bit.str C).size : Int) % 8 != 0) = false := by rw [hz]; simp; omega
      have HPK := Lib.hid hpk; clear hpk
      generalize hS : Bit.str C = s at *
      have HS := Lib.hid hS; have HZ := Lib.hid hz; clear hS hz
      have hs4 : s.size ≤ 8008 := by have := HZ.out; omega
      go_wp2_with fail
      go_loopw [3, 4] (fun o i wr => ∃ k : Nat, 8 * k ≤ s.size ∧ i = .int .i64 ((8 * k : Nat) : Int) ∧ wr.ownsRow w.heap.size 5 1 o k (byteVals ((Bit.pack C).take k)) ∧ Below w.heap.size w wr) (fun _ i _ => s.size - (intOf i).toNat)
      case atStart => exact ⟨0, by omega, rfl, World.ownsRow_nil _ _ _ _, Below.refl _ _⟩
      case round =>
        obtain ⟨k, hk, rfl, hown, hb⟩ := hrel
        have hbs := hb.size
        by_cases hlt : 8 * k < s.size
        · have hk8 : 8 * k + 8 ≤ C.length := by have := HZ.out; omega
          have hex := Bit.str_extract C (8 * k) (8 * k + 8)
          rw [show 8 * k + 8 - 8 * k = 8 from by omega] at hex
          have hpsn := Bit.pack_snoc C k hk8
          have hl8 : ((C.drop (8 * k)).take 8).length = 8 := by simp; omega
          have hvl := Bit.val_lt ((C.drop (8 * k)).take 8)
          rw [hl8] at hvl
          have hn := fun W => rNumber_any ((C.drop (8 * k)).take 8) (by omega) W
          rw [← hex, HS.out] at hn
          generalize Bit.val ((C.drop (8 * k)).take 8) = x at *
          have hw8 : IntKind.u8.wrap (x : Int) = (x : Int) := by rw [IntKind.wrap_u8']; omega
          have i1 : (0 : Int) ≤ ((8 * k : Nat) : Int) := by omega
          have hx : (((UInt8.ofNat x).toNat : Nat) : Int) = (x : Int) := by simp; omega
          have HN := Lib.hid hn; have HPS := Lib.hid hpsn; have HX := Lib.hid hx
          clear hn hpsn hx hex hl8 hvl
          generalize he : 8 * k = q at *
          have HE := Lib.hid he; clear he
          have i2 : (q : Int) + 8 ≤ (s.size : Int) := by have := HZ.out; omega
          have i3 : ((q : Int) + 8).toNat = q + 8 := by omega
          have hq : q + 8 ≤ 8008 := by omega
          have hk1001 : k ≤ 1001 := by have := HE.out; omega
          go_wp2_with fail
          refine (HN.out _).mono ?_; rintro e wx ⟨rfl, rfl⟩
          go_wp2_with (at_builtin; go_must (refine wpList_append_own _ rfl _ _ 54 rfl (w.heap.size) 5 i0 (.int .u8 0) 1 1 Tryd.underlying54 hi hz0 hz1 hz2 rfl (by decide) _ _ _ rfl (hown.alloc _) ⟨(wx).heap.size, 0, none⟩ 1 1 [.int .u8 (x : Int)] rfl rfl (cell_one_new _ _ _) (by simp [Value.oneCell']) (by unfold maxLen; omega) (by omega) (by simp; omega) ?_); intro v' w1 hown' hgrow _)
          go_roundw
          case rel =>
            refine ⟨k + 1, by have := HE.out; have := HZ.out; omega, by have := HE.out; congr 1; omega, ?_, (hb.alloc hbs _).grown hgrow (by simp; omega) (fun b hv => (hown.lt b hv).1)⟩
            rw [HPS.out, byteVals_append]
            show w1.ownsRow _ _ _ _ _ (byteVals _ ++ [Value.int .u8 (((UInt8.ofNat x).toNat : Nat) : Int)])
            rw [HX.out]; exact hown'
          case measure => simp [intOf]; omega
        · have hkk : 8 * k = s.size := by omega
          have ht : (Bit.pack C).take k = Bit.pack B := by
            rw [List.take_of_length_le (by rw [Bit.pack_length]; unfold Bit.size; have := HZ.out; omega)]
            exact HPK.out
          rw [ht] at hown
          have hc := own_bytes (P := Tryd.prog) (src := 54) (dst := 9) _ Tryd.underlying54 Tryd.underlying5 Tryd.underlying9 hown
          have HT := Lib.hid ht; have HKK := Lib.hid hkk; clear ht hkk
          go_wp2_with fail
          go_ret
          exact ⟨rfl, hb⟩
    · have e1 : (((Bit.str C).size : Int) % 8 != 0) = true := by rw [hz]; simp; omega
      have hsn : Bit.str C ++ (⟨#[48]⟩ : ByteArray) = Bit.str (C ++ [false]) := Bit.str_snoc false C
      have hpf := Bit.pack_fill B C hpk h8
      have hsz : (Bit.str C).size ≤ 8008 := by rw [hz]; omega
      have hm : (8 - (C ++ [false]).length % 8) % 8 < (8 - C.length % 8) % 8 := by rw [List.length_append]; simp; omega
      have hl2 : (C ++ [false]).length ≤ (B.length + 7) / 8 * 8 := by rw [List.length_append]; simp; omega
      rw [← Bit.str_size, ← Bit.str_size C] at hm
      generalize C ++ [false] = D at *
      have HSN := Lib.hid hsn; have HPF := Lib.hid hpf; have HZ := Lib.hid hz; have HPK := Lib.hid hpk; have HM := Lib.hid hm
      clear hsn hpf hz hpk hm
      generalize hS : Bit.str C = s at *
      have HS := Lib.hid hS; clear hS
      go_wp2_with fail
      go_round
      case rel => exact ⟨D, by rw [HSN.out], HPF.out, hl2⟩
      case measure => rw [HSN.out]; exact HM.out
end Go.Proofs.YtahdfcflgicpkaaDoor
