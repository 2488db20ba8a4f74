import Derived.Test.YtfibapfehgglhaaGreatDoorNumD
/-
  What the functions of package num come to: what the cursor's calls read.
-/
namespace Go.Proofs.YtfibapfehgglhaaGreatDoor
open Go.RowKit

namespace Num
/-- bytes as a number, the lowest first -/
def num : List UInt8 → Nat
  | [] => 0
  | b :: r => b.toNat + 256 * num r
theorem num_append (a b : List UInt8) : num (a ++ b) = num a + 256 ^ a.length * num b := by
  induction a with
  | nil => simp [num]
  | cons x a ih =>
    show x.toNat + 256 * num (a ++ b) = x.toNat + 256 * num a + 256 ^ (a.length + 1) * num b
    rw [ih, Nat.mul_add, Nat.pow_succ, Nat.mul_comm (256 ^ a.length) 256, Nat.mul_assoc, Nat.add_assoc]
theorem num_lt (l : List UInt8) : num l < 256 ^ l.length := by
  induction l with
  | nil => simp [num]
  | cons x l ih =>
    have hx := x.toNat_lt
    show x.toNat + 256 * num l < 256 ^ (l.length + 1)
    rw [Nat.pow_succ]; omega
theorem take_byte (s : ByteArray) (k : Nat) (h : k < s.size) : s.data.toList.take (k + 1) = s.data.toList.take k ++ [s[k]] := by
  rw [List.take_succ_eq_append_getElem (by simpa using h)]; rfl
theorem num_take (s : ByteArray) (k : Nat) (h : k < s.size) : num (s.data.toList.take (k + 1)) = num (s.data.toList.take k) + s[k].toNat * 256 ^ k := by
  rw [take_byte s k h, num_append]
  have hl : (s.data.toList.take k).length = k := by simp; omega
  rw [hl]
  show _ + 256 ^ k * (s[k].toNat + 256 * 0) = _
  rw [Nat.mul_zero, Nat.add_zero, Nat.mul_comm]
theorem num_take_lt (s : ByteArray) (k : Nat) (h : k ≤ s.size) : num (s.data.toList.take k) < 256 ^ k := by
  have := num_lt (s.data.toList.take k)
  rwa [show (s.data.toList.take k).length = k from by simp; omega] at this
theorem shl8 (b k : Nat) (hb : b * 256 ^ k < 18446744073709551616) : IntKind.u64.wrap ((b : Int) * 2 ^ (8 * k)) = ((b * 256 ^ k : Nat) : Int) := by
  have h : (256 : Nat) ^ k = 2 ^ (8 * k) := (Nat.pow_mul 2 8 k).symm
  have e : (b : Int) * 2 ^ (8 * k) = ((b * 256 ^ k : Nat) : Int) := by
    rw [h, Int.natCast_mul, Int.natCast_pow]; rfl
  rw [e, wrap_small _ hb]
theorem or8 (a b k : Nat) (ha : a < 256 ^ k) (hb : a + b * 256 ^ k < 18446744073709551616) : bits BinOp.or IntKind.u64 (a : Int) ((b * 256 ^ k : Nat) : Int) = ((a + b * 256 ^ k : Nat) : Int) := by
  have h : (256 : Nat) ^ k = 2 ^ (8 * k) := (Nat.pow_mul 2 8 k).symm
  rw [u64_or_nat _ _ (by omega) (by omega)]
  congr 1
  rw [Nat.or_comm, nat_join (8 * k) _ _ (by rw [h, Nat.mul_mod_left]) (by rw [← h]; exact ha), Nat.add_comm]
end Num

set_option maxRecDepth 100000 in
set_option maxHeartbeats 400000 in
theorem wide_fn (s : ByteArray) (hs : s.size ≤ maxLen) (w : World) :
    Calls Tryz.prog 167 #[.string s] w fun e w' => e = .returned (.tuple #[.int .u64 ((if decide (8 ≤ s.size) = true then Num.num (s.data.toList.take 8) else 0 : Nat) : Int), .int .i64 ((if decide (8 ≤ s.size) = true then 8 else 0 : Nat) : Int), .bool (decide (8 ≤ s.size))]) ∧ w = w' := by
  unfold maxLen at hs
  by_cases h8 : 8 ≤ s.size
  · rw [decide_eq_true h8]
    simp only [if_true]
    generalize hF : Num.num (s.data.toList.take 8) = fin
    have HF := Lib.hid hF; clear hF
    go_enter Tryz.func167, Tryz.ntmps167
    go_wp2
    go_loop [5, 10] (fun v i => ∃ k a : Nat, k ≤ 8 ∧ i = .int .i64 k ∧ v = .int .u64 a ∧ Num.num (s.data.toList.take k) = a) (fun _ i => 8 - (intOf i).toNat)
    case atStart => exact ⟨0, 0, by omega, rfl, rfl, by simp [Num.num]⟩
    case round =>
      obtain ⟨k, a, hk, rfl, rfl, ha⟩ := hrel
      by_cases hk8 : k < 8
      · have hlt := Num.num_take_lt s k (by omega)
        have hnx := Num.num_take s k (by omega)
        have hnl := Num.num_take_lt s (k + 1) (by omega)
        rw [ha] at hlt hnx
        have hb := s[k].toNat_lt
        have h256 : 256 ^ (k + 1) ≤ 256 ^ 8 := Nat.pow_le_pow_right (by decide) (by omega)
        rw [hnx] at hnl
        have hw := Num.wrap_small s[k].toNat (by omega)
        have hs1 := Num.shl8 s[k].toNat k (by omega)
        have ho1 := Num.or8 a s[k].toNat k hlt (by omega)
        clear hlt hnl h256
        generalize hB : s[k].toNat = b at *
        obtain ⟨r, hr⟩ : ∃ r, a + b * 256 ^ k = r := ⟨_, rfl⟩
        rw [hr] at ho1
        obtain ⟨q, hq⟩ : ∃ q, b * 256 ^ k = q := ⟨_, rfl⟩
        rw [hq] at ho1 hs1
        have HQ := Lib.hid hq; have HR := Lib.hid hr; have HN := Lib.hid hnx; have HA := Lib.hid ha
        clear hq hr hnx ha
        go_wp2
        go_round
        case rel => exact ⟨k + 1, r, by omega, by go_num, rfl, by rw [HN.out, HR.out]⟩
        case measure => simp [intOf]; omega
      · obtain rfl : k = 8 := by omega
        have HA := Lib.hid ha; clear ha
        go_wp2
        go_ret3
        exact ⟨by rw [← HF.out, HA.out]; rfl, rfl⟩
  · rw [decide_eq_false h8]
    go_enter Tryz.func167, Tryz.ntmps167
    go_wp2
    go_ret3
    exact ⟨rfl, rfl⟩

namespace Num
def tOk (n : Int) (s : ByteArray) : Bool := decide (0 ≤ n ∧ n ≤ s.size)
end Num

set_option maxRecDepth 100000 in
set_option maxHeartbeats 400000 in
theorem take_fn (s : ByteArray) (_hs : s.size ≤ maxLen) (n : Int) (x : Nat) (w : World) (hx : w.cell? ⟨x, 0, none⟩ = some (.int .i64 n)) :
    Calls Tryz.prog 166 #[.string s, .pointer (some ⟨x, 0, none⟩)] w fun e w' => e = .returned (.tuple #[.string (if Num.tOk n s = true then s.extract 0 n.toNat else ByteArray.empty), .int .i64 ((if Num.tOk n s = true then n.toNat else 0 : Nat) : Int), .bool (Num.tOk n s)]) ∧ Below w.heap.size w w' := by
  by_cases h : 0 ≤ n ∧ n ≤ s.size
  · rw [show Num.tOk n s = true from decide_eq_true h]
    simp only [if_true]
    obtain ⟨h0, h1⟩ := h
    obtain ⟨m, rfl⟩ := Int.eq_ofNat_of_zero_le h0
    have d1 : decide ((m : Int) < 0) = false := by simp
    have d2 : decide ((s.size : Int) < (m : Int)) = false := by simp; omega
    go_enter Tryz.func166, Tryz.ntmps166
    go_wp2
    go_quiet (fail)
    go_wp2
    go_ret3
    exact ⟨rfl, below_drewN (Below.refl _ _) _⟩
  · rw [show Num.tOk n s = false from decide_eq_false h]
    have hd : decide (n < 0) = true ∨ (decide (n < 0) = false ∧ decide ((s.size : Int) < n) = true) := by
      by_cases hn : n < 0
      · left; simpa using hn
      · right; simp; omega
    rcases hd with hd | ⟨hd, hd2⟩
    all_goals
      go_enter Tryz.func166, Tryz.ntmps166
      go_wp2
      go_ret3
      exact ⟨rfl, Below.refl _ _⟩

namespace Num
/-- the text that bytes begin with, of at most m bytes -/
def xOk (m : Int) (s : ByteArray) : Bool := (decp 0 0 s.data.toList).2.2 && decide (0 ≤ m ∧ ((decp 0 0 s.data.toList).1 : Int) ≤ m ∧ (decp 0 0 s.data.toList).1 + (decp 0 0 s.data.toList).2.1 ≤ s.size)
def xN (s : ByteArray) : Nat := (decp 0 0 s.data.toList).2.1 + (decp 0 0 s.data.toList).1
def xV (s : ByteArray) : ByteArray := s.extract (decp 0 0 s.data.toList).2.1 (xN s)
end Num

set_option maxRecDepth 100000 in
set_option maxHeartbeats 400000 in
theorem text_fn (s : ByteArray) (hs : s.size ≤ maxLen) (m : Int) (hm : Hid (-9223372036854775808 ≤ m ∧ m ≤ 9223372036854775807)) (x : Nat) (w : World) (hx : w.cell? ⟨x, 0, none⟩ = some (.int .i64 m)) :
    Calls Tryz.prog 322 #[.string s, .pointer (some ⟨x, 0, none⟩)] w fun e w' => e = .returned (.tuple #[.string (if Num.xOk m s = true then Num.xV s else ByteArray.empty), .int .i64 ((if Num.xOk m s = true then Num.xN s else 0 : Nat) : Int), .bool (Num.xOk m s)]) ∧ w = w' := by
  have hlt := Num.decp_lt s.data.toList 0 0 (by simp) (by omega)
  have hle : (Num.decp 0 0 s.data.toList).2.1 ≤ s.size := by have := Num.decp_snd s.data.toList 0 0; simp at this; omega
  have hcall := fun W => small_any s hs W
  have hok : Num.xOk m s = ((Num.decp 0 0 s.data.toList).2.2 && decide (0 ≤ m ∧ ((Num.decp 0 0 s.data.toList).1 : Int) ≤ m ∧ (Num.decp 0 0 s.data.toList).1 + (Num.decp 0 0 s.data.toList).2.1 ≤ s.size)) := rfl
  have hN : Num.xN s = (Num.decp 0 0 s.data.toList).2.1 + (Num.decp 0 0 s.data.toList).1 := rfl
  have hV : Num.xV s = s.extract (Num.decp 0 0 s.data.toList).2.1 (Num.xN s) := rfl
  unfold maxLen at hs
  generalize Num.decp 0 0 s.data.toList = D at *
  obtain ⟨v, n, ok⟩ := D
  simp only at *
  generalize Num.xV s = V at *
  generalize Num.xN s = N at *
  by_cases h : ok = true ∧ 0 ≤ m ∧ (v : Int) ≤ m ∧ v + n ≤ s.size
  · obtain ⟨rfl, h0, h1, h2⟩ := h
    rw [hok, Bool.true_and, decide_eq_true ⟨h0, h1, h2⟩]
    simp only [if_true]
    obtain ⟨u, rfl⟩ := Int.eq_ofNat_of_zero_le h0
    subst hN hV
    have hmm := hm.out
    have w1 := Num.wrap_small u (by omega)
    have w2 := Num.wrap_small (s.size - n) (by omega)
    rw [show ((s.size - n : Nat) : Int) = (s.size : Int) - n from by omega] at w2
    have w3 : wrap64 (v : Int) = v := IntWalk.wrap64_in _ ⟨by omega, by omega⟩
    have d1 : decide ((u : Int) < 0) = false := by simp
    have d2 : decide ((u : Int) < (v : Int)) = false := by simp; omega
    have d3 : decide ((s.size : Int) - n < (v : Int)) = false := by simp; omega
    have b1 : (n : Int) ≤ s.size := by omega
    have b2 : (n : Int) + v ≤ s.size := by omega
    have b3 : (0 : Int) ≤ (n : Int) + v := by omega
    have b4 : (n : Int) ≤ (n : Int) + v := by omega
    have HC := Lib.hid hcall; clear hcall hmm hlt h0 h2 hok
    go_enter Tryz.func322, Tryz.ntmps322
    go_wp2_with fail
    refine (HC.out _).mono ?_
    rintro e wx ⟨rfl, rfl⟩
    go_wp2_with fail
    go_ret3
    exact ⟨rfl, rfl⟩
  · have hb : (ok && decide (0 ≤ m ∧ (v : Int) ≤ m ∧ v + n ≤ s.size)) = false := by
      cases ok
      · rfl
      · simp only [Bool.true_and]; exact decide_eq_false (fun e => h ⟨rfl, e⟩)
    rw [hok, hb]
    simp only [Bool.false_eq_true, if_false]
    have HC := Lib.hid hcall; clear hcall hok hN hV hb
    have hmm := hm.out
    cases ok
    · clear hmm hlt h
      go_enter Tryz.func322, Tryz.ntmps322
      go_wp2_with fail
      refine (HC.out _).mono ?_
      rintro e wx ⟨rfl, rfl⟩
      go_wp2_with fail
      go_ret3
      exact ⟨rfl, rfl⟩
    · by_cases h0 : 0 ≤ m
      · obtain ⟨u, rfl⟩ := Int.eq_ofNat_of_zero_le h0
        have w1 := Num.wrap_small u (by omega)
        have w2 := Num.wrap_small (s.size - n) (by omega)
        rw [show ((s.size - n : Nat) : Int) = (s.size : Int) - n from by omega] at w2
        have d1 : decide ((u : Int) < 0) = false := by simp
        by_cases h1 : v ≤ u
        · have d2 : decide ((u : Int) < (v : Int)) = false := by simp; omega
          have d3 : decide ((s.size : Int) - n < (v : Int)) = true := by simp at h; simp; omega
          clear hmm hlt h
          go_enter Tryz.func322, Tryz.ntmps322
          go_wp2_with fail
          refine (HC.out _).mono ?_
          rintro e wx ⟨rfl, rfl⟩
          go_wp2_with fail
          go_ret3
          exact ⟨rfl, rfl⟩
        · have d2 : decide ((u : Int) < (v : Int)) = true := by simp; omega
          clear hmm hlt h
          go_enter Tryz.func322, Tryz.ntmps322
          go_wp2_with fail
          refine (HC.out _).mono ?_
          rintro e wx ⟨rfl, rfl⟩
          go_wp2_with fail
          go_ret3
          exact ⟨rfl, rfl⟩
      · have d1 : decide (m < 0) = true := by simp; omega
        clear hmm hlt h
        go_enter Tryz.func322, Tryz.ntmps322
        go_wp2_with fail
        refine (HC.out _).mono ?_
        rintro e wx ⟨rfl, rfl⟩
        go_wp2_with fail
        go_ret3
        exact ⟨rfl, rfl⟩

namespace Num
/-- the byte at a place; 0 where there is none -/
def byteAt (s : ByteArray) (k : Nat) : Nat := (s.data.toList.getD k 0).toNat
theorem byteAt_eq (s : ByteArray) (k : Nat) (h : k < s.size) : s[k].toNat = byteAt s k := by
  unfold byteAt
  have e : s.data.toList[k]? = some s[k] := by rw [List.getElem?_eq_getElem (by simpa using h)]; rfl
  rw [List.getD_eq_getElem?_getD, e]; rfl
theorem byteAt_lt (s : ByteArray) (k : Nat) : byteAt s k < 256 := UInt8.toNat_lt _
/-- there is a text of k bytes -/
def fMay (k : Nat) (s : ByteArray) : Prop := k < s.size ∧ byteAt s k ≤ k
def fV (k : Nat) (s : ByteArray) : ByteArray := s.extract 0 (byteAt s k)
def fOk (k : Nat) (s : ByteArray) : Bool := decide (fixedB (fV k s) k = s.extract 0 (k + 1))
theorem fixedB_size (s : ByteArray) (k : Nat) : (fixedB s k).size = k + 1 := by
  unfold fixedB; rw [ByteArray.size_mk']; simp [fixL_length]
theorem sz_nat (k : Nat) (h : k ≤ 255) : sz (k : Int) = k := by unfold sz; omega
end Num

set_option maxRecDepth 100000 in
set_option maxHeartbeats 400000 in
theorem fixed_fn_no (s : ByteArray) (k : Nat) (_hk : k ≤ 255) (h : ¬ Num.fMay k s) (x : Nat) (w : World) (hx : w.cell? ⟨x, 0, none⟩ = some (.int .i64 k)) :
    Calls Tryz.prog 320 #[.string s, .pointer (some ⟨x, 0, none⟩)] w fun e w' => e = .returned (.tuple #[.string ByteArray.empty, .int .i64 0, .bool false]) ∧ Below w.heap.size w w' := by
  unfold Num.fMay at h
  by_cases hl : k < s.size
  · have hb := Num.byteAt_eq s k hl
    have hb2 := Num.byteAt_lt s k
    have d1 : decide ((s.size : Int) ≤ (k : Int)) = false := by simp; omega
    have d2 : decide ((k : Int) < (Num.byteAt s k : Int)) = true := by simp; omega
    have e1 : decide (s.size ≤ k) = false := by simp; omega
    have e2 : decide (k < Num.byteAt s k) = true := by simp; omega
    have q1 : (k : Int) < s.size := by omega
    have w3 : wrap64 (Num.byteAt s k : Int) = Num.byteAt s k := IntWalk.wrap64_in _ ⟨by omega, by omega⟩
    have w5 : IntKind.i64.wrap (Num.byteAt s k : Int) = Num.byteAt s k := IntWalk.i64_in _ ⟨by omega, by omega⟩
    generalize Num.byteAt s k = b at *
    clear h hb2
    go_enter Tryz.func320, Tryz.ntmps320
    go_wp2
    go_quiet (fail)
    go_wp2
    go_ret3
    exact ⟨rfl, below_drewN (Below.refl _ _) _⟩
  · have d1 : decide ((s.size : Int) ≤ (k : Int)) = true := by simp; omega
    have e1 : decide (s.size ≤ k) = true := by simp; omega
    clear h
    go_enter Tryz.func320, Tryz.ntmps320
    go_wp2
    go_quiet (fail)
    go_wp2
    go_ret3
    exact ⟨rfl, below_drewN (Below.refl _ _) _⟩

set_option maxRecDepth 100000 in
set_option maxHeartbeats 400000 in
theorem fixed_fn_yes (s : ByteArray) (k : Nat) (hk : k ≤ 255) (h : Num.fMay k s) (x : Nat) (w : World) (hx : w.cell? ⟨x, 0, none⟩ = some (.int .i64 k)) :
    Calls Tryz.prog 320 #[.string s, .pointer (some ⟨x, 0, none⟩)] w fun e w' => e = .returned (.tuple #[.string (Num.fV k s), .int .i64 ((k + 1 : Nat) : Int), .bool (Num.fOk k s)]) ∧ Below w.heap.size w w' := by
  obtain ⟨hl, h2⟩ := h
  have hb := Num.byteAt_eq s k hl
  have hb2 := Num.byteAt_lt s k
  have hfv : Num.fV k s = s.extract 0 (Num.byteAt s k) := rfl
  have hfs : (Num.fV k s).size ≤ 255 := by rw [hfv]; simp; omega
  have hok : Num.fOk k s = decide (Num.fixedB (Num.fV k s) k = s.extract 0 (k + 1)) := rfl
  have d1 : decide ((s.size : Int) ≤ (k : Int)) = false := by simp; omega
  have d2 : decide ((k : Int) < (Num.byteAt s k : Int)) = false := by simp; omega
  have e1 : decide (s.size ≤ k) = false := by simp; omega
  have e2 : decide (k < Num.byteAt s k) = false := by simp; omega
  have q1 : (k : Int) < s.size := by omega
  have q2 : (k : Int) + 1 ≤ s.size := by omega
  have q3 : (Num.byteAt s k : Int) ≤ s.size := by omega
  have q4 : (0 : Int) ≤ (k : Int) + 1 := by omega
  have w3 : wrap64 (Num.byteAt s k : Int) = Num.byteAt s k := IntWalk.wrap64_in _ ⟨by omega, by omega⟩
  have w4 : wrap64 ((k : Int) + 1) = (k : Int) + 1 := IntWalk.wrap64_in _ ⟨by omega, by omega⟩
  have w5 : IntKind.i64.wrap (Num.byteAt s k : Int) = Num.byteAt s k := IntWalk.i64_in _ ⟨by omega, by omega⟩
  have w6 : IntKind.i64.wrap ((k : Int) + 1) = (k : Int) + 1 := IntWalk.i64_in _ ⟨by omega, by omega⟩
  have w7 : ((k : Int) + 1).toNat = k + 1 := by omega
  have hsz := Num.sz_nat k hk
  generalize Num.byteAt s k = b at *
  have hfs2 : (s.extract 0 b).size ≤ 255 := by rw [← hfv]; exact hfs
  clear hfs
  have HOK := Lib.hid hok; have HFV := Lib.hid hfv; have HSZ := Lib.hid hsz
  clear hok hfv hsz hb2
  go_enter Tryz.func320, Tryz.ntmps320
  go_wp2
  go_quiet (fail)
  go_wp2
  go_region_held3 (fun W => W.cell? ⟨x, 0, none⟩ = some (.int .i64 k) ∧ Below w.heap.size w W)
    (first | exact ⟨by simpa using hx, (below_drewN (Below.refl _ _) _).drew⟩ | go_keep | (go_split_ands; exact ⟨cell_keep (by assumption) hb3, below_step (by assumption) hb3⟩))
    (first | (go_at_call 280; refine (Fixed_any _ (by unfold maxLen; omega) _ _).mono ?_; rintro e W2 ⟨rfl, hb3⟩))
  go_wp2
  go_ret3
  refine ⟨?_, by go_split_ands; assumption⟩
  rw [HSZ.out, str_beq, HOK.out, HFV.out]
  rfl
end Go.Proofs.YtfibapfehgglhaaGreatDoor
/-
  What the functions of package num come to: the cursor's calls.
-/
namespace Go.Proofs.YtfibapfehgglhaaGreatDoor
open Go.RowKit

namespace Num
def fAll (k : Nat) (s : ByteArray) : Bool := decide (k < s.size ∧ byteAt s k ≤ k) && fOk k s
def fN (k : Nat) (s : ByteArray) : Nat := if k < s.size ∧ byteAt s k ≤ k then k + 1 else 0
def fT (k : Nat) (s : ByteArray) : ByteArray := if k < s.size ∧ byteAt s k ≤ k then fV k s else ByteArray.empty
theorem xN_le (m : Int) (s : ByteArray) (h : xOk m s = true) : xN s ≤ s.size := by
  unfold xOk at h
  simp only [Bool.and_eq_true, decide_eq_true_eq] at h
  unfold xN; omega
theorem fN_le (k : Nat) (s : ByteArray) (h : fAll k s = true) : fN k s ≤ s.size := by
  unfold fAll at h
  simp only [Bool.and_eq_true, decide_eq_true_eq] at h
  unfold fN; rw [if_pos h.1]; omega
theorem tN_le (m : Int) (s : ByteArray) (h : tOk m s = true) : m.toNat ≤ s.size := by
  unfold tOk at h
  simp only [decide_eq_true_eq] at h
  omega
end Num
theorem fixed_fn (s : ByteArray) (k : Nat) (hk : k ≤ 255) (x : Nat) (w : World) (hx : w.cell? ⟨x, 0, none⟩ = some (.int .i64 k)) :
    Calls Tryz.prog 320 #[.string s, .pointer (some ⟨x, 0, none⟩)] w fun e w' => e = .returned (.tuple #[.string (Num.fT k s), .int .i64 (Num.fN k s : Nat), .bool (Num.fAll k s)]) ∧ Below w.heap.size w w' := by
  unfold Num.fT Num.fN Num.fAll
  by_cases h : k < s.size ∧ Num.byteAt s k ≤ k
  · rw [if_pos h, if_pos h, decide_eq_true h, Bool.true_and]; exact fixed_fn_yes s k hk h x w hx
  · rw [if_neg h, if_neg h, decide_eq_false h, Bool.false_and]; exact fixed_fn_no s k hk h x w hx

set_option maxRecDepth 100000 in
set_option maxHeartbeats 400000 in
theorem take_wide (b : Nat) (s : ByteArray) (hs : s.size ≤ maxLen) (bad : Bool) (w : World) (hc : CurAt b s bad w) :
    Calls Tryz.prog 163 #[.pointer (some ⟨b, 0, none⟩), .func (.func 167) #[] #[]] w fun e w' => e = .returned (.int .u64 ((Num.curV bad ((decide (8 ≤ s.size))) ((if decide (8 ≤ s.size) = true then Num.num (s.data.toList.take 8) else 0)) 0 : Nat) : Int)) ∧ CurAt b (Num.curV bad ((decide (8 ≤ s.size))) (s.extract ((if decide (8 ≤ s.size) = true then 8 else 0)) s.size) s) (bad || !(decide (8 ≤ s.size))) w' ∧ w.grownBy w' (some b) := by
  have hn : (decide (8 ≤ s.size)) = true → (if decide (8 ≤ s.size) = true then 8 else 0) ≤ s.size := fun h => by rw [if_pos h]; simpa using h
  have hcall := fun W (hW : Below w.heap.size w W) => (wide_fn s hs W).mono (R' := fun e w' => e = .returned (.tuple #[.int .u64 ((if decide (8 ≤ s.size) = true then Num.num (s.data.toList.take 8) else 0) : Nat), .int .i64 ((if decide (8 ≤ s.size) = true then 8 else 0) : Nat), .bool (decide (8 ≤ s.size))]) ∧ Below w.heap.size w w') (fun e w' ⟨h1, h2⟩ => ⟨h1, h2 ▸ hW⟩)
  obtain ⟨c0, c1, f0, f1⟩ := hc.cells
  have HC := Lib.hid hc; have HCALL := Lib.hid hcall; have HN := Lib.hid hn
  clear hc hcall hn
  unfold maxLen at hs
  generalize (if decide (8 ≤ s.size) = true then Num.num (s.data.toList.take 8) else 0) = v at *
  generalize (if decide (8 ≤ s.size) = true then 8 else 0) = n at *
  generalize (decide (8 ≤ s.size)) = ok at *
  cases bad
  · go_enter Tryz.func163, Tryz.ntmps163
    go_wp2_with fail
    refine (HCALL.out _ (Below.refl _ _)).mono ?_
    rintro e w1 ⟨rfl, hb⟩
    have HC1 : Hid (CurAt b s false w1) := heap_keep HC.out hb
    have HG := Lib.hid (grown_of_below (row := some b) hb)
    clear hb c0 c1 f0 f1
    obtain ⟨c0, c1, f0, f1⟩ := HC1.out.cells
    cases ok
    · go_wp2
      go_ret
      exact ⟨rfl, HC1.out.putBad true, grown_trans HG.out (grown_setCell _ _ _ _)⟩
    · have h1 : (0 : Int) ≤ (n : Int) := by omega
      have h2 : (n : Int) ≤ s.size := by have := HN.out rfl; omega
      go_wp2
      go_ret
      exact ⟨rfl, HC1.out.putS _, grown_trans HG.out (grown_setCell _ _ _ _)⟩
  · go_enter Tryz.func163, Tryz.ntmps163
    go_wp2
    go_ret
    exact ⟨rfl, HC.out, grown_refl _ _⟩

set_option maxRecDepth 100000 in
set_option maxHeartbeats 400000 in
theorem take_text (b : Nat) (s : ByteArray) (hs : s.size ≤ maxLen) (bad : Bool) (m : Int) (hm : Hid (-9223372036854775808 ≤ m ∧ m ≤ 9223372036854775807)) (x : Nat) (w : World) (hc : CurAt b s bad w) (hx : w.cell? ⟨x, 0, none⟩ = some (.int .i64 m)) :
    Calls Tryz.prog 165 #[.pointer (some ⟨b, 0, none⟩), .func (.func 322) #[] #[.pointer (some ⟨x, 0, none⟩)]] w fun e w' => e = .returned (.string (Num.curV bad ((Num.xOk m s)) ((if Num.xOk m s = true then Num.xV s else ByteArray.empty)) ByteArray.empty)) ∧ CurAt b (Num.curV bad ((Num.xOk m s)) (s.extract ((if Num.xOk m s = true then Num.xN s else 0)) s.size) s) (bad || !(Num.xOk m s)) w' ∧ w.grownBy w' (some b) := by
  have hn : (Num.xOk m s) = true → (if Num.xOk m s = true then Num.xN s else 0) ≤ s.size := fun h => by rw [if_pos h]; exact Num.xN_le m s h
  have hcall := fun W (hW : Below w.heap.size w W) => (text_fn s hs m hm x W (cell_keep hx hW)).mono (R' := fun e w' => e = .returned (.tuple #[.string (if Num.xOk m s = true then Num.xV s else ByteArray.empty), .int .i64 ((if Num.xOk m s = true then Num.xN s else 0) : Nat), .bool (Num.xOk m s)]) ∧ Below w.heap.size w w') (fun e w' ⟨h1, h2⟩ => ⟨h1, h2 ▸ hW⟩)
  obtain ⟨c0, c1, f0, f1⟩ := hc.cells
  have HC := Lib.hid hc; have HCALL := Lib.hid hcall; have HN := Lib.hid hn
  clear hc hcall hn
  unfold maxLen at hs
  generalize (if Num.xOk m s = true then Num.xV s else ByteArray.empty) = v at *
  generalize (if Num.xOk m s = true then Num.xN s else 0) = n at *
  generalize (Num.xOk m s) = ok at *
  clear hx hm
  cases bad
  · go_enter Tryz.func165, Tryz.ntmps165
    go_wp2_with fail
    refine (HCALL.out _ (Below.refl _ _)).mono ?_
    rintro e w1 ⟨rfl, hb⟩
    have HC1 : Hid (CurAt b s false w1) := heap_keep HC.out hb
    have HG := Lib.hid (grown_of_below (row := some b) hb)
    clear hb c0 c1 f0 f1
    obtain ⟨c0, c1, f0, f1⟩ := HC1.out.cells
    cases ok
    · go_wp2
      go_ret
      exact ⟨rfl, HC1.out.putBad true, grown_trans HG.out (grown_setCell _ _ _ _)⟩
    · have h1 : (0 : Int) ≤ (n : Int) := by omega
      have h2 : (n : Int) ≤ s.size := by have := HN.out rfl; omega
      go_wp2
      go_ret
      exact ⟨rfl, HC1.out.putS _, grown_trans HG.out (grown_setCell _ _ _ _)⟩
  · go_enter Tryz.func165, Tryz.ntmps165
    go_wp2
    go_ret
    exact ⟨rfl, HC.out, grown_refl _ _⟩

set_option maxRecDepth 100000 in
set_option maxHeartbeats 400000 in
theorem take_fixed (b : Nat) (s : ByteArray) (_hs : s.size ≤ maxLen) (bad : Bool) (k : Nat) (hk : k ≤ 255) (x : Nat) (w : World) (hc : CurAt b s bad w) (hx : w.cell? ⟨x, 0, none⟩ = some (.int .i64 k)) :
    Calls Tryz.prog 165 #[.pointer (some ⟨b, 0, none⟩), .func (.func 320) #[] #[.pointer (some ⟨x, 0, none⟩)]] w fun e w' => e = .returned (.string (Num.curV bad ((Num.fAll k s)) ((Num.fT k s)) ByteArray.empty)) ∧ CurAt b (Num.curV bad ((Num.fAll k s)) (s.extract ((Num.fN k s)) s.size) s) (bad || !(Num.fAll k s)) w' ∧ w.grownBy w' (some b) := by
  have hn : (Num.fAll k s) = true → (Num.fN k s) ≤ s.size := fun h => Num.fN_le k s h
  have hcall := fun W (hW : Below w.heap.size w W) => (fixed_fn s k hk x W (cell_keep hx hW)).mono (R' := fun e w' => e = .returned (.tuple #[.string (Num.fT k s), .int .i64 ((Num.fN k s) : Nat), .bool (Num.fAll k s)]) ∧ Below w.heap.size w w') (fun e w' ⟨h1, h2⟩ => ⟨h1, hW.trans (h2.mono hW.size)⟩)
  obtain ⟨c0, c1, f0, f1⟩ := hc.cells
  have HC := Lib.hid hc; have HCALL := Lib.hid hcall; have HN := Lib.hid hn
  clear hc hcall hn
  generalize (Num.fAll k s) = ok at *
  generalize (Num.fT k s) = v at *
  generalize (Num.fN k s) = n at *
  clear hx hk
  cases bad
  · go_enter Tryz.func165, Tryz.ntmps165
    go_wp2_with fail
    refine (HCALL.out _ (Below.refl _ _)).mono ?_
    rintro e w1 ⟨rfl, hb⟩
    have HC1 : Hid (CurAt b s false w1) := heap_keep HC.out hb
    have HG := Lib.hid (grown_of_below (row := some b) hb)
    clear hb c0 c1 f0 f1
    obtain ⟨c0, c1, f0, f1⟩ := HC1.out.cells
    cases ok
    · go_wp2
      go_ret
      exact ⟨rfl, HC1.out.putBad true, grown_trans HG.out (grown_setCell _ _ _ _)⟩
    · have h1 : (0 : Int) ≤ (n : Int) := by omega
      have h2 : (n : Int) ≤ s.size := by have := HN.out rfl; omega
      go_wp2
      go_ret
      exact ⟨rfl, HC1.out.putS _, grown_trans HG.out (grown_setCell _ _ _ _)⟩
  · go_enter Tryz.func165, Tryz.ntmps165
    go_wp2
    go_ret
    exact ⟨rfl, HC.out, grown_refl _ _⟩

set_option maxRecDepth 100000 in
set_option maxHeartbeats 400000 in
theorem take_take (b : Nat) (s : ByteArray) (hs : s.size ≤ maxLen) (bad : Bool) (m : Int) (x : Nat) (w : World) (hc : CurAt b s bad w) (hx : w.cell? ⟨x, 0, none⟩ = some (.int .i64 m)) :
    Calls Tryz.prog 165 #[.pointer (some ⟨b, 0, none⟩), .func (.func 166) #[] #[.pointer (some ⟨x, 0, none⟩)]] w fun e w' => e = .returned (.string (Num.curV bad ((Num.tOk m s)) ((if Num.tOk m s = true then s.extract 0 m.toNat else ByteArray.empty)) ByteArray.empty)) ∧ CurAt b (Num.curV bad ((Num.tOk m s)) (s.extract ((if Num.tOk m s = true then m.toNat else 0)) s.size) s) (bad || !(Num.tOk m s)) w' ∧ w.grownBy w' (some b) := by
  have hn : (Num.tOk m s) = true → (if Num.tOk m s = true then m.toNat else 0) ≤ s.size := fun h => by rw [if_pos h]; exact Num.tN_le m s h
  have hcall := fun W (hW : Below w.heap.size w W) => (take_fn s hs m x W (cell_keep hx hW)).mono (R' := fun e w' => e = .returned (.tuple #[.string (if Num.tOk m s = true then s.extract 0 m.toNat else ByteArray.empty), .int .i64 ((if Num.tOk m s = true then m.toNat else 0) : Nat), .bool (Num.tOk m s)]) ∧ Below w.heap.size w w') (fun e w' ⟨h1, h2⟩ => ⟨h1, hW.trans (h2.mono hW.size)⟩)
  obtain ⟨c0, c1, f0, f1⟩ := hc.cells
  have HC := Lib.hid hc; have HCALL := Lib.hid hcall; have HN := Lib.hid hn
  clear hc hcall hn
  unfold maxLen at hs
  generalize (if Num.tOk m s = true then s.extract 0 m.toNat else ByteArray.empty) = v at *
  generalize (if Num.tOk m s = true then m.toNat else 0) = n at *
  generalize (Num.tOk m s) = ok at *
  clear hx
  cases bad
  · go_enter Tryz.func165, Tryz.ntmps165
    go_wp2_with fail
    refine (HCALL.out _ (Below.refl _ _)).mono ?_
    rintro e w1 ⟨rfl, hb⟩
    have HC1 : Hid (CurAt b s false w1) := heap_keep HC.out hb
    have HG := Lib.hid (grown_of_below (row := some b) hb)
    clear hb c0 c1 f0 f1
    obtain ⟨c0, c1, f0, f1⟩ := HC1.out.cells
    cases ok
    · go_wp2
      go_ret
      exact ⟨rfl, HC1.out.putBad true, grown_trans HG.out (grown_setCell _ _ _ _)⟩
    · have h1 : (0 : Int) ≤ (n : Int) := by omega
      have h2 : (n : Int) ≤ s.size := by have := HN.out rfl; omega
      go_wp2
      go_ret
      exact ⟨rfl, HC1.out.putS _, grown_trans HG.out (grown_setCell _ _ _ _)⟩
  · go_enter Tryz.func165, Tryz.ntmps165
    go_wp2
    go_ret
    exact ⟨rfl, HC.out, grown_refl _ _⟩

end Go.Proofs.YtfibapfehgglhaaGreatDoor
