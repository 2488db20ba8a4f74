import Derived.Test.YtliobahnekohmaaGreatArr
import Derived.Deep.DeepMust
import Derived.Laws.DeepNot64
/-
  The plain mathematics of small numbers: seven bits a byte, the lowest first; and back.
-/
namespace Go.Proofs.YtliobahnekohmaaGreat
namespace Num
def enc : Nat → Nat → List UInt8
 | 0, n => [UInt8.ofNat n]
 | f + 1, n => if 128 ≤ n then UInt8.ofNat (n % 128 + 128) :: enc f (n / 128) else [UInt8.ofNat n]
def small (n : Nat) : List UInt8 := enc 9 n
def dec (i v : Nat) : List UInt8 → Option (Nat × Nat)
 | [] => none
 | b :: r =>
  if 10 ≤ i ∨ (i = 9 ∧ 1 < b.toNat) then none
  else if b.toNat < 128 then (if b.toNat ≠ 0 ∨ i = 0 then some (v + b.toNat % 128 * 128 ^ i, i + 1) else none)
  else dec (i + 1) (v + b.toNat % 128 * 128 ^ i) r
theorem enc_length_pos (f n : Nat) : 1 ≤ (enc f n).length := by
 cases f with
 | zero => simp [enc]
 | succ f => unfold enc; split <;> simp
theorem enc_length_le (f : Nat) : ∀ n, (enc f n).length ≤ f + 1 := by
 induction f with
 | zero => intro n; simp [enc]
 | succ f ih => intro n; unfold enc; split <;> simp; exact ih _
theorem pow_split (i : Nat) (h : i ≤ 8) : 128 ^ (9 - i) = 128 * 128 ^ (9 - (i + 1)) := by
 rw [show 9 - i = (9 - (i + 1)) + 1 from by omega, Nat.pow_succ, Nat.mul_comm]
theorem dec_enc (rest : List UInt8) : ∀ (k i v m : Nat), k + i = 9 → m < 2 * 128 ^ k → (m ≠ 0 ∨ i = 0) →
 dec i v (enc k m ++ rest) = some (v + m * 128 ^ i, i + (enc k m).length) := by
 intro k
 induction k with
 | zero =>
  intro i v m hk hm h0
  have hm2 : m < 2 := by simpa using hm
  have e : (UInt8.ofNat m).toNat = m := by simp; omega
  show dec i v (UInt8.ofNat m :: rest) = _
  unfold dec
  rw [e, if_neg (by omega), if_pos (by omega), if_pos h0, Nat.mod_eq_of_lt (by omega)]
  simp [enc]
 | succ k ih =>
  intro i v m hk hm h0
  by_cases hc : 128 ≤ m
  · have e : (UInt8.ofNat (m % 128 + 128)).toNat = m % 128 + 128 := by simp; omega
    have he : enc (k + 1) m = UInt8.ofNat (m % 128 + 128) :: enc k (m / 128) := by rw [enc, if_pos hc]
    rw [he, List.cons_append]
    unfold dec
    rw [e, if_neg (by omega), if_neg (by omega)]
    have hm' : m / 128 < 2 * 128 ^ k := by rw [Nat.pow_succ] at hm; omega
    rw [ih (i + 1) _ (m / 128) (by omega) hm' (.inl (by omega))]
    have e2 : v + (m % 128 + 128) % 128 * 128 ^ i + m / 128 * 128 ^ (i + 1) = v + m * 128 ^ i := by
     have h1 : (m % 128 + 128) % 128 = m % 128 := by omega
     rw [h1, Nat.pow_succ, Nat.add_assoc]
     congr 1
     have h2 : m / 128 * (128 ^ i * 128) = m / 128 * 128 * 128 ^ i := by rw [Nat.mul_comm (128 ^ i), Nat.mul_assoc]
     rw [h2, ← Nat.add_mul]
     congr 1
     omega
    rw [e2]
    simp; omega
  · have e : (UInt8.ofNat m).toNat = m := by simp; omega
    have he : enc (k + 1) m = [UInt8.ofNat m] := by rw [enc, if_neg hc]
    rw [he]
    show dec i v (UInt8.ofNat m :: rest) = _
    unfold dec
    rw [e, if_neg (by omega), if_pos (by omega), if_pos h0, Nat.mod_eq_of_lt (by omega)]
    simp
def decp (i v : Nat) : List UInt8 → Nat × Nat × Bool
 | [] => (0, 0, false)
 | b :: r =>
  if 10 ≤ i ∨ (i = 9 ∧ 1 < b.toNat) then (0, 0, false)
  else if b.toNat < 128 then (v + b.toNat % 128 * 128 ^ i, i + 1, decide (b.toNat ≠ 0 ∨ i = 0))
  else decp (i + 1) (v + b.toNat % 128 * 128 ^ i) r
theorem decp_dec : ∀ (l : List UInt8) (i v : Nat), dec i v l = if (decp i v l).2.2 = true then some ((decp i v l).1, (decp i v l).2.1) else none
 | [], i, v => by simp [dec, decp]
 | b :: r, i, v => by
  unfold dec decp
  split
  · simp
  · split
    · split <;> simp_all
    · exact decp_dec r (i + 1) _
def get (l : List UInt8) : Option (Nat × Nat) := dec 0 0 l
theorem get_small (n : Nat) (hn : n < 18446744073709551616) (rest : List UInt8) : get (small n ++ rest) = some (n, (small n).length) := by
 have h := dec_enc rest 9 0 0 n rfl (by simp; omega) (.inr rfl)
 unfold get small
 rw [h]; simp
theorem decp_lt : ∀ (l : List UInt8) (i v : Nat), v < 128 ^ i → i ≤ 9 → (decp i v l).1 < 18446744073709551616
 | [], _, _, _, _ => by simp [decp]
 | b :: r, i, v, hv, hi => by
  have hb := b.toNat_lt
  unfold decp
  split
  · simp
  · rename_i hc
    rcases Nat.lt_or_ge i 9 with h9 | h9
    · have hs : v + b.toNat % 128 * 128 ^ i < 128 ^ (i + 1) := by
       have h1 : b.toNat % 128 * 128 ^ i ≤ 127 * 128 ^ i := Nat.mul_le_mul_right _ (by omega)
       rw [Nat.pow_succ]; omega
      split
      · have h2 : 128 ^ (i + 1) ≤ 128 ^ 9 := Nat.pow_le_pow_right (by decide) (by omega)
        show v + b.toNat % 128 * 128 ^ i < _
        omega
      · exact decp_lt r (i + 1) _ hs (by omega)
    · obtain rfl : i = 9 := by omega
      have hb1 : b.toNat ≤ 1 ∨ 128 ≤ b.toNat := by omega
      split
      · have h1 : b.toNat % 128 * 128 ^ 9 ≤ 1 * 128 ^ 9 := Nat.mul_le_mul_right _ (by omega)
        show v + b.toNat % 128 * 128 ^ 9 < _
        omega
      · cases r with
        | nil => simp [decp]
        | cons c r => simp [decp]
theorem decp_snd : ∀ (l : List UInt8) (i v : Nat), (decp i v l).2.1 ≤ i + l.length
 | [], _, _ => by simp [decp]
 | b :: r, i, v => by
  unfold decp
  split
  · simp
  · split
    · simp
    · have := decp_snd r (i + 1) (v + b.toNat % 128 * 128 ^ i)
      simp only [List.length_cons]; omega
end Num
end Go.Proofs.YtliobahnekohmaaGreat
/-
  What the functions of package num come to: Small, Wide, size, small.
-/
namespace Go.Proofs.YtliobahnekohmaaGreat
open Go.RowKit
namespace Num
def smallB (n : Nat) : ByteArray := ⟨(small n).toArray⟩
theorem or128 (m : Nat) : bits BinOp.or IntKind.u8 ((m : Int) % 256) 128 = (((UInt8.ofNat (m % 128 + 128)).toNat : Nat) : Int) := by
 have h := u8_or_nat (m % 256) 128 (by omega) (by decide)
 have e : (m % 256 ||| 128 : Nat) = m % 128 + 128 := by
  have h1 := nat_bit 7 (m % 256)
  have h2 : m % 256 = (m % 256) / 128 * 128 + m % 128 := by omega
  rcases Nat.lt_or_ge (m % 256) 128 with hl | hl
  · rw [show m % 256 = m % 128 from by omega, Nat.or_comm, nat_join 7 128 (m % 128) (by decide) (by omega)]; omega
  · apply Nat.eq_of_testBit_eq
    intro i
    have e2 : m % 256 = 2 ^ 7 * 1 + m % 128 := by omega
    have e3 : m % 128 + 128 = 2 ^ 7 * 1 + m % 128 := by omega
    rw [Nat.testBit_or, e3, e2, Nat.testBit_two_pow_mul_add _ (by omega)]
    by_cases hi : i < 7
    · simp only [hi, if_true]
      have : (128 : Nat).testBit i = false := by
       rw [show (128 : Nat) = 2 ^ 7 from rfl, Nat.testBit_two_pow]; simp; omega
      simp [this]
    · simp only [hi, if_false]
      by_cases h7 : i = 7
      · subst h7; decide
      · have : (128 : Nat).testBit i = false := by
         rw [show (128 : Nat) = 2 ^ 7 from rfl, Nat.testBit_two_pow]; simp; omega
        simp [this]
 have e4 : ((m % 256 : Nat) : Int) = (m : Int) % 256 := by omega
 rw [e4] at h
 have e5 : (UInt8.ofNat (m % 128 + 128)).toNat = m % 128 + 128 := by simp; omega
 rw [e5, ← e]
 exact h
end Num
set_option maxRecDepth 100000 in
set_option maxHeartbeats 400000 in
theorem Small_any (n : Nat) (hn0 : Hid (n < 18446744073709551616)) (w : World) :
 Calls Tryz.prog 104 #[.int .u64 n] w fun e w' => e = .returned (.string (Num.smallB n)) ∧ Below w.heap.size w w' := by
 go_enter Tryz.func104, Tryz.ntmps104
 go_wp2
 have hz : (#[.int .u8 0, .int .u8 0, .int .u8 0, .int .u8 0, .int .u8 0, .int .u8 0, .int .u8 0, .int .u8 0, .int .u8 0, .int .u8 0] : Array Value) = byteCells ([] ++ List.replicate (10 - 0) 0) := rfl
 rw [hz]
 clear hz
 go_loopw [0, 4] (fun v i wr => ∃ (pre : List UInt8) (m : Nat), i = .int .i64 pre.length ∧ v = .int .u64 m ∧ pre.length ≤ 9 ∧ m < 2 * 128 ^ (9 - pre.length) ∧ Num.small n = pre ++ Num.enc (9 - pre.length) m ∧ wr = w.alloc (.cells (byteCells (pre ++ List.replicate (10 - pre.length) 0)) 164)) (fun v _ _ => (intOf v).toNat)
 case atStart => exact ⟨[], n, rfl, rfl, by simp, by have hn := hn0.out; simp; omega, rfl, rfl⟩
 case round =>
  obtain ⟨pre, m, rfl, rfl, hp, hm, hs, rfl⟩ := hrel
  have hmm : m < 18446744073709551616 := Nat.lt_of_lt_of_le hm (by have : 128 ^ (9 - pre.length) ≤ 128 ^ 9 := Nat.pow_le_pow_right (by decide) (by omega); omega)
  have hroom := byteCells_room pre (10 - pre.length) (by omega)
  have HS := Lib.hid hs; clear hs
  have HMM := Lib.hid hmm; clear hmm
  by_cases hc : 128 ≤ m
  · have hor := Num.or128 m
    have hp8 : pre.length ≤ 8 := by
     rcases Nat.lt_or_ge pre.length 9 with h | h
     · omega
     · rw [show 9 - pre.length = 0 from by omega] at hm; simp at hm; omega
    have hput := byteCells_put pre (10 - pre.length) (UInt8.ofNat (m % 128 + 128)) (by omega)
    have HM := Lib.hid hm; have HP := Lib.hid hput; clear hm hput
    generalize hX : (UInt8.ofNat (m % 128 + 128)) = x at *
    have HX := Lib.hid hX; clear hX
    go_wp2
    go_roundw
    case rel =>
     refine ⟨pre ++ [x], m / 128, by simp, by go_num, by simp; omega, ?_, ?_, ?_⟩
     · have h2 := Num.pow_split pre.length hp8
       have h3 := HM.out
       simp only [List.length_append, List.length_cons, List.length_nil, Nat.zero_add]
       rw [h2] at h3
       omega
     · rw [HS.out, List.append_assoc]
       congr 1
       rw [show 9 - pre.length = (9 - (pre ++ [x]).length) + 1 from by simp; omega, Num.enc, if_pos hc, HX.out]
       rfl
     · rw [HP.out]
       simp only [List.length_append, List.length_cons, List.length_nil]
       rw [show 10 - pre.length - 1 = 10 - (pre.length + (0 + 1)) from by omega]
    case measure => simp [intOf]; omega
  · have hput := byteCells_put pre (10 - pre.length) (UInt8.ofNat m) (by omega)
    have hx : ((UInt8.ofNat m).toNat : Int) = m := by simp; omega
    rw [hx] at hput
    have hfin : Num.small n = pre ++ [UInt8.ofNat m] := by
     rw [HS.out]
     congr 1
     cases 9 - pre.length with
     | zero => rfl
     | succ f => rw [Num.enc, if_neg hc]
    have q1 : (pre.length : Int) + 1 ≤ 10 := by omega
    have q0 : (0 : Int) ≤ (pre.length : Int) + 1 := by omega
    have ht : (pre ++ [UInt8.ofNat m] ++ List.replicate (10 - pre.length - 1) 0).take (pre.length + 1) = pre ++ [UInt8.ofNat m] := List.take_left' (by simp)
    have HP := Lib.hid hput; have HF := Lib.hid hfin; have HT := Lib.hid ht; clear hput hfin ht
    go_wp2
    rw [HP.out, arr_take (P := Tryz.prog) _ w.heap.size 63 5 9 _ _ Tryz.underlying63 Tryz.underlying5 Tryz.underlying9 (heap_alloc_new w _) (pre.length + 1) 10 (by simp), HT.out]
    go_wp2
    go_ret
    refine ⟨?_, (Below.refl _ _).alloc (Nat.le_refl _) _⟩
    unfold Num.smallB
    rw [HF.out]
    rfl
namespace Num
def le (n : Nat) : Nat → List UInt8
 | 0 => []
 | k + 1 => le n k ++ [UInt8.ofNat (n / 256 ^ k % 256)]
theorem le_length (n k : Nat) : (le n k).length = k := by
 induction k with
 | zero => rfl
 | succ k ih => simp [le, ih]
theorem wide_byte (n k : Nat) : (n : Int) / 2 ^ (8 * k) % 256 = (((UInt8.ofNat (n / 256 ^ k % 256)).toNat : Nat) : Int) := by
 have e : (UInt8.ofNat (n / 256 ^ k % 256)).toNat = n / 256 ^ k % 256 := by simp
 have h : (256 : Nat) ^ k = 2 ^ (8 * k) := (Nat.pow_mul 2 8 k).symm
 rw [e, h, Int.natCast_emod, Int.natCast_ediv, Int.natCast_pow]
 rfl
def wideB (n : Nat) : ByteArray := ⟨(le n 8).toArray⟩
end Num
set_option maxRecDepth 100000 in
set_option maxHeartbeats 400000 in
theorem Wide_any (n : Nat) (w : World) :
 Calls Tryz.prog 62 #[.int .u64 n] w fun e w' => e = .returned (.string (Num.wideB n)) ∧ Below w.heap.size w w' := by
 go_enter Tryz.func62, Tryz.ntmps62
 go_wp2
 have hz : (#[.int .u8 0, .int .u8 0, .int .u8 0, .int .u8 0, .int .u8 0, .int .u8 0, .int .u8 0, .int .u8 0] : Array Value) = byteCells (Num.le n 0 ++ List.replicate (8 - 0) 0) := rfl
 rw [hz]
 clear hz
 go_loopw [5] (fun i wr => ∃ k : Nat, k ≤ 8 ∧ i = .int .i64 k ∧ wr = w.alloc (.cells (byteCells (Num.le n k ++ List.replicate (8 - k) 0)) 137)) (fun i _ => 8 - (intOf i).toNat)
 case atStart => exact ⟨0, by omega, rfl, rfl⟩
 case round =>
  obtain ⟨k, hk, rfl, rfl⟩ := hrel
  by_cases h8 : k < 8
  · have hroom := byteCells_room (Num.le n k) (8 - k) (by omega)
    have hput := byteCells_put (Num.le n k) (8 - k) (UInt8.ofNat (n / 256 ^ k % 256)) (by omega)
    rw [Num.le_length] at hroom hput
    have HP := Lib.hid hput; clear hput
    go_wp2
    go_roundw
    case rel =>
     refine ⟨k + 1, by omega, by go_num, ?_⟩
     rw [Num.wide_byte, HP.out, show 8 - k - 1 = 8 - (k + 1) from by omega]
     rfl
    case measure => simp [intOf]; omega
  · obtain rfl : k = 8 := by omega
    go_wp2
    rw [arr_take (P := Tryz.prog) _ w.heap.size 63 5 9 _ _ Tryz.underlying63 Tryz.underlying5 Tryz.underlying9 (heap_alloc_new w _) 8 8 (by simp [Num.le_length])]
    go_wp2
    go_ret
    exact ⟨rfl, (Below.refl _ _).alloc (Nat.le_refl _) _⟩
namespace Num
def sz (n : Int) : Nat := (min (max n 0) 255).toNat
theorem sz_le (n : Int) : sz n ≤ 255 := by unfold sz; omega
end Num
set_option maxHeartbeats 400000 in
theorem size_any (n : Int) (w : World) :
 Calls Tryz.prog 103 #[.int .i64 n] w fun e w' => e = .returned (.int .i64 (Num.sz n : Nat)) ∧ w = w' := by
 go_enter Tryz.func103, Tryz.ntmps103
 go_wp2
 all_goals (go_ret; exact ⟨ret_int (by unfold Num.sz; omega), rfl⟩)
end Go.Proofs.YtliobahnekohmaaGreat
/-
  What small of package num comes to: the number that a text begins with.
-/
namespace Go.Proofs.YtliobahnekohmaaGreat
open Go.RowKit
theorem Num.wrap_small (b : Nat) (h : b < 18446744073709551616) : IntKind.u64.wrap (b : Int) = (b : Int) := by
 rw [IntKind.wrap_u64]; omega
theorem Num.shl_byte (b k : Nat) (hb : b % 128 * 128 ^ k < 18446744073709551616) : IntKind.u64.wrap ((b : Int) % 128 * 2 ^ (7 * k)) = ((b % 128 * 128 ^ k : Nat) : Int) := by
 have h : (128 : Nat) ^ k = 2 ^ (7 * k) := (Nat.pow_mul 2 7 k).symm
 have e : (b : Int) % 128 * 2 ^ (7 * k) = ((b % 128 * 128 ^ k : Nat) : Int) := by
  rw [h, Int.natCast_mul, Int.natCast_emod, Int.natCast_pow]; rfl
 rw [e, Num.wrap_small _ hb]
theorem Num.or_byte (a b k : Nat) (ha : a < 128 ^ k) (hb : a + b % 128 * 128 ^ k < 18446744073709551616) : bits BinOp.or IntKind.u64 (a : Int) ((b % 128 * 128 ^ k : Nat) : Int) = ((a + b % 128 * 128 ^ k : Nat) : Int) := by
 have h : (128 : Nat) ^ k = 2 ^ (7 * k) := (Nat.pow_mul 2 7 k).symm
 rw [u64_or_nat _ _ (by omega) (by omega)]
 congr 1
 rw [Nat.or_comm, nat_join (7 * k) _ _ (by rw [h, Nat.mul_mod_left]) (by rw [← h]; exact ha), Nat.add_comm]
theorem Num.room (a b k : Nat) (ha : a < 128 ^ k) (hk : k < 10) (h9 : ¬ (k = 9 ∧ 1 < b)) : a + b % 128 * 128 ^ k < 18446744073709551616 := by
 rcases Nat.lt_or_ge k 9 with h | h
 · have h1 : b % 128 * 128 ^ k ≤ 127 * 128 ^ k := Nat.mul_le_mul_right _ (by omega)
   have h2 : 128 ^ (k + 1) ≤ 128 ^ 9 := Nat.pow_le_pow_right (by decide) (by omega)
   rw [Nat.pow_succ] at h2
   omega
 · obtain rfl : k = 9 := by omega
   have h1 : b % 128 * 128 ^ 9 ≤ 1 * 128 ^ 9 := Nat.mul_le_mul_right _ (by omega)
   omega
theorem Num.decp_stop (k a : Nat) (l : List UInt8) (h : l = [] ∨ 10 ≤ k) : decp k a l = (0, 0, false) := by
 cases l with
 | nil => rfl
 | cons b r =>
  rcases h with h | h
  · cases h
  · unfold decp; rw [if_pos (.inl h)]
theorem Num.decp_nine (k a : Nat) (b : UInt8) (r : List UInt8) (h : k = 9) (h1 : 1 < b.toNat) : decp k a (b :: r) = (0, 0, false) := by
 unfold decp; rw [if_pos (.inr ⟨h, h1⟩)]
theorem Num.decp_low (k a : Nat) (b : UInt8) (r : List UInt8) (hk : k < 10) (h : ¬ (k = 9 ∧ 1 < b.toNat)) (hl : b.toNat < 128) : decp k a (b :: r) = (a + b.toNat % 128 * 128 ^ k, k + 1, decide (b.toNat ≠ 0 ∨ k = 0)) := by
 unfold decp; rw [if_neg (by omega), if_pos hl]
theorem Num.decp_more (k a : Nat) (b : UInt8) (r : List UInt8) (hk : k < 10) (h : ¬ (k = 9 ∧ 1 < b.toNat)) (hl : ¬ b.toNat < 128) : decp k a (b :: r) = decp (k + 1) (a + b.toNat % 128 * 128 ^ k) r := by
 rw [decp, if_neg (by omega), if_neg hl]
theorem Num.less_more (a b k : Nat) (ha : a < 128 ^ k) : a + b % 128 * 128 ^ k < 128 ^ (k + 1) := by
 have h1 : b % 128 * 128 ^ k ≤ 127 * 128 ^ k := Nat.mul_le_mul_right _ (by omega)
 rw [Nat.pow_succ]; omega
theorem Num.drop_byte (s : ByteArray) (k : Nat) (h : k < s.size) : s.data.toList.drop k = s[k] :: s.data.toList.drop (k + 1) := by
 rw [List.drop_eq_getElem_cons (by simpa using h)]; rfl
set_option maxRecDepth 100000 in
set_option maxHeartbeats 1000000 in
theorem small_any (s : ByteArray) (hs : s.size ≤ maxLen) (w : World) :
 Calls Tryz.prog 126 #[.string s] w fun e w' => e = .returned (.tuple #[.int .u64 ((Num.decp 0 0 s.data.toList).1 : Nat), .int .i64 ((Num.decp 0 0 s.data.toList).2.1 : Nat), .bool (Num.decp 0 0 s.data.toList).2.2]) ∧ w = w' := by
 unfold maxLen at hs
 generalize hD : Num.decp 0 0 s.data.toList = D
 have HD := Lib.hid hD; clear hD
 go_enter Tryz.func126, Tryz.ntmps126
 go_wp2
 all_goals
  go_loop [5, 11] (fun v i => ∃ k a : Nat, k ≤ s.size ∧ k ≤ 10 ∧ i = .int .i64 k ∧ v = .int .u64 a ∧ Num.decp k a (s.data.toList.drop k) = D ∧ a < 128 ^ k) (fun _ i => 10 - (intOf i).toNat)
  case atStart => exact ⟨0, 0, by omega, by omega, rfl, rfl, HD.out, by simp⟩
  case round =>
   obtain ⟨k, a, hk1, hk2, rfl, rfl, hd, ha⟩ := hrel
   by_cases hk : k < s.size ∧ k < 10
   · obtain ⟨hk1', hk2'⟩ := hk
     rw [Num.drop_byte s k hk1'] at hd
     have hb := s[k].toNat_lt
     have HH := Lib.hid hd; have HA := Lib.hid ha; clear hd ha
     generalize hB : s[k].toNat = b at *
     have HB := Lib.hid hB
     have hw := Num.wrap_small b (by omega)
     by_cases h9 : k = 9 ∧ 1 < b
     · have hst := Num.decp_nine k a s[k] (s.data.toList.drop (k + 1)) h9.1 (by omega)
       obtain ⟨h9, h1⟩ := h9
       have e9 : ((k : Int) == 9) = true := by simp; omega
       have H9 := Lib.hid h9; have HST := Lib.hid hst; clear h9 hst
       go_wp2
       go_ret3
       rw [← HH.out, HST.out]
       exact ⟨rfl, rfl⟩
     · have hrm := Num.room a b k HA.out hk2' h9
       have hs1 := Num.shl_byte b k (by omega)
       have ho1 := Num.or_byte a b k HA.out hrm
       clear hrm
       obtain ⟨r, hr⟩ : ∃ r, a + b % 128 * 128 ^ k = r := ⟨_, rfl⟩
       rw [hr] at ho1
       obtain ⟨q, hq⟩ : ∃ q, b % 128 * 128 ^ k = q := ⟨_, rfl⟩
       rw [hq] at ho1 hs1
       have HQ := Lib.hid hq; have HR := Lib.hid hr; clear hq hr
       have hc : ((k : Int) == 9) = false ∨ (((k : Int) == 9) = true ∧ b ≤ 1) := by
        by_cases e : k = 9
        · right; simp [e]; omega
        · left; simp; omega
       by_cases hlow : b < 128
       · have hst := Num.decp_low k a s[k] (s.data.toList.drop (k + 1)) hk2' (by rw [hB]; exact h9) (by omega)
         have H9 := Lib.hid h9; have HST := Lib.hid hst; clear h9 hst
         by_cases hb0 : b = 0
         · have n1 : ((b : Int) != 0) = false := by simp; omega
           have n2 : ((b : Int) == 0) = true := by simp; omega
           have HB0 := Lib.hid hb0; clear hb0
           rcases hc with e9 | ⟨e9, h1⟩
           all_goals
            go_wp2
            go_ret3
            rw [← HH.out, HST.out, HB.out, HR.out]
            exact ⟨by rw [show decide (b ≠ 0 ∨ k = 0) = ((k : Int) == 0) from by have hb0 := HB0.out; by_cases hk0 : k = 0 <;> simp [hb0, hk0]]; rfl, rfl⟩
         · have n1 : ((b : Int) != 0) = true := by rw [bne_iff_ne]; omega
           have n2 : ((b : Int) == 0) = false := by simp; omega
           have HB0 := Lib.hid hb0; clear hb0
           rcases hc with e9 | ⟨e9, h1⟩
           all_goals
            go_wp2
            go_ret3
            rw [← HH.out, HST.out, HB.out, HR.out]
            exact ⟨by rw [show decide (b ≠ 0 ∨ k = 0) = true from by have hb0 := HB0.out; simp [hb0]]; rfl, rfl⟩
       · have hc2 : ((k : Int) == 9) = false := by
          rcases hc with e9 | ⟨e9, h1⟩
          · exact e9
          · omega
         have hst := Num.decp_more k a s[k] (s.data.toList.drop (k + 1)) hk2' (by rw [hB]; exact h9) (by omega)
         have H9 := Lib.hid h9; have HST := Lib.hid hst; clear h9 hst hc
         go_wp2
         go_round
         case rel =>
          refine ⟨k + 1, r, by omega, by omega, by go_num, rfl, ?_, by rw [← HR.out]; exact Num.less_more a b k HA.out⟩
          rw [← HH.out, HST.out, HB.out, HR.out]
         case measure => simp [intOf]; omega
   · have hst := Num.decp_stop k a (s.data.toList.drop k) (by
      rcases Nat.lt_or_ge k 10 with h | h
      · left; simp; omega
      · right; exact h)
     have HH := Lib.hid hd; have HST := Lib.hid hst; clear hd hst
     go_wp2
     go_ret3
     rw [← HH.out, HST.out]
     exact ⟨rfl, rfl⟩
end Go.Proofs.YtliobahnekohmaaGreat
/-
  What the functions of package num come to: Zig, Zag, Text, Fixed.
-/
namespace Go.Proofs.YtliobahnekohmaaGreat
open Go.RowKit
namespace Num
theorem xor_mask (k c : Nat) (h : c < 2 ^ k) : (2 ^ k - 1) ^^^ c = 2 ^ k - 1 - c := by
 apply Nat.eq_of_testBit_eq
 intro i
 have e1 : 2 ^ k - 1 - c = 2 ^ k - (c + 1) := by omega
 rw [Nat.testBit_xor, e1, Nat.testBit_two_pow_sub_succ h, Nat.testBit_two_pow_sub_one]
 by_cases hi : i < k
 · simp [hi]
 · have : c.testBit i = false := Nat.testBit_lt_two_pow (Nat.lt_of_lt_of_le h (Nat.pow_le_pow_right (by decide) (Nat.not_lt.1 hi)))
   simp [hi, this]
theorem bits_xor_comm (k : IntKind) (x y : Int) : bits .xor k x y = bits .xor k y x := by
 simp only [bits]; rw [BitVec.xor_comm]
def zig (n : Int) : Nat := if 0 ≤ n then (2 * n).toNat else (-2 * n - 1).toNat
def zag (n : Nat) : Int := if n % 2 = 0 then ((n / 2 : Nat) : Int) else -((n / 2 : Nat) : Int) - 1
theorem zig_lt (n : Int) (h0 : -9223372036854775808 ≤ n) (h1 : n ≤ 9223372036854775807) : zig n < 18446744073709551616 := by
 unfold zig; split <;> omega
theorem zag_zig (n : Int) : zag (zig n) = n := by
 unfold zig zag; split <;> split <;> omega
theorem zig_bits (n : Int) (h0 : -9223372036854775808 ≤ n) (h1 : n ≤ 9223372036854775807) :
 bits BinOp.xor .u64 (IntKind.u64.wrap (wrap64 (n * 2))) (IntKind.u64.wrap (n / 9223372036854775808)) = (zig n : Nat) := by
 unfold wrap64
 rw [IntKind.wrap_u64, IntKind.wrap_u64]
 by_cases hp : 0 ≤ n
 · have e1 : ((n * 2 + 9223372036854775808) % 18446744073709551616 - 9223372036854775808) % 18446744073709551616 = ((2 * n).toNat : Nat) := by omega
   have e2 : n / 9223372036854775808 % 18446744073709551616 = ((0 : Nat) : Int) := by omega
   rw [e1, e2]
   rw [u64_xor_nat _ _ (by omega) (by omega), Nat.xor_zero, zig, if_pos hp]
 · have e1 : ((n * 2 + 9223372036854775808) % 18446744073709551616 - 9223372036854775808) % 18446744073709551616 = ((2 * n + 18446744073709551616).toNat : Nat) := by omega
   have e2 : n / 9223372036854775808 % 18446744073709551616 = ((18446744073709551615 : Nat) : Int) := by omega
   rw [e1, e2]
   rw [u64_xor_nat _ _ (by omega) (by omega), Nat.xor_comm, show (18446744073709551615 : Nat) = 2 ^ 64 - 1 from rfl, xor_mask 64 _ (by omega), zig, if_neg hp]
   omega
theorem xor_i64_zero (a : Nat) (ha : a < 9223372036854775808) : bits .xor .i64 (a : Int) 0 = a := by
 have e : (BitVec.ofInt 64 (a : Int) ^^^ BitVec.ofInt 64 0) = BitVec.ofInt 64 (a : Int) := by simp
 have e2 : (BitVec.ofInt 64 (a : Int)).toNat = a := by rw [BitVec.toNat_ofInt]; omega
 show IntKind.i64.wrap ((BitVec.ofInt 64 (a : Int) ^^^ BitVec.ofInt 64 0).toNat : Int) = a
 rw [e, e2, IntKind.wrap_i64]
 omega
theorem zag_bits (n : Nat) (h : n < 18446744073709551616) :
 bits BinOp.xor .i64 (wrap64 ((n : Int) / 2)) (wrap64 (-wrap64 (bits BinOp.and .u64 (n : Int) 1))) = zag n := by
 have ha : bits BinOp.and .u64 (n : Int) 1 = ((n % 2 : Nat) : Int) := by
  rw [← nat_mask1]; exact u64_and_nat n 1 h (by decide)
 rw [ha]
 have e0 : wrap64 ((n : Int) / 2) = ((n / 2 : Nat) : Int) := by rw [IntWalk.wrap64_in _ (by omega)]; omega
 rw [e0]
 unfold zag
 rcases Nat.mod_two_eq_zero_or_one n with hm | hm
 · rw [hm, if_pos rfl, show wrap64 (-wrap64 ((0 : Nat) : Int)) = 0 from by simp [wrap64], xor_i64_zero _ (by omega)]
 · rw [hm, if_neg (by decide), show wrap64 (-wrap64 ((1 : Nat) : Int)) = -1 from by simp [wrap64], bits_xor_comm, i64_not _ (by omega)]
   omega
end Num
set_option maxRecDepth 100000 in
set_option maxHeartbeats 400000 in
theorem Zig_any (n : Int) (hn : Hid (-9223372036854775808 ≤ n ∧ n ≤ 9223372036854775807)) (w : World) :
 Calls Tryz.prog 68 #[.int .i64 n] w fun e w' => e = .returned (.int .u64 (Num.zig n : Nat)) ∧ w = w' := by
 go_enter Tryz.func68, Tryz.ntmps68
 go_wp2
 go_ret
 exact ⟨ret_int (Num.zig_bits n hn.out.1 hn.out.2), rfl⟩
set_option maxRecDepth 100000 in
set_option maxHeartbeats 400000 in
theorem Zag_any (n : Nat) (hn : Hid (n < 18446744073709551616)) (w : World) :
 Calls Tryz.prog 130 #[.int .u64 n] w fun e w' => e = .returned (.int .i64 (Num.zag n)) ∧ w = w' := by
 go_enter Tryz.func130, Tryz.ntmps130
 go_wp2
 go_ret
 exact ⟨ret_int (Num.zag_bits n hn.out), rfl⟩
set_option maxRecDepth 100000 in
set_option maxHeartbeats 400000 in
theorem Text_any (s : ByteArray) (hs : s.size ≤ 300) (w : World) :
 Calls Tryz.prog 65 #[.string s] w fun e w' => e = .returned (.string (Num.smallB s.size ++ s)) ∧ Below w.heap.size w w' := by
 have hw := Num.wrap_small s.size (by omega)
 have hz : (Num.smallB s.size).size ≤ 10 := Num.enc_length_le 9 _
 have HZ := Lib.hid hz; clear hz
 go_enter Tryz.func65, Tryz.ntmps65
 go_wp2_with fail
 refine (Small_any s.size (Lib.hid (by omega)) _).mono ?_; rintro e w1 ⟨rfl, hb1⟩; have HB1 := Lib.hid hb1; clear hb1
 have hz := HZ.out
 go_wp2_with fail
 go_ret
 exact ⟨rfl, HB1.out⟩
theorem zero256 (w : World) : (zeroValue 117).run Tryz.prog w = .ok (.agg (byteCells (List.replicate 256 0))) w := by kernel_rfl
theorem Tryz.size5 : (Tryz.prog.info? 5).map (·.size) = some 1 := by kernel_rfl
namespace Num
def fixL (t : List UInt8) (k : Nat) : List UInt8 := t.take k ++ List.replicate (k - (t.take k).length) 0 ++ [UInt8.ofNat (t.take k).length]
def fixedB (s : ByteArray) (k : Nat) : ByteArray := ⟨(fixL s.data.toList k).toArray⟩
theorem fixL_length (t : List UInt8) (k : Nat) : (fixL t k).length = k + 1 := by simp [fixL]; omega
theorem fix_cells (t : List UInt8) (k n : Nat) (ht : t.length ≤ k) (hk : k < n) (hn : t.length ≤ 255) :
 (byteCells (t ++ List.replicate (n - t.length) 0)).setIfInBounds k (.int .u8 (t.length : Int)) = byteCells (fixL t k ++ List.replicate (n - (k + 1)) 0) := by
 have e : t ++ List.replicate (n - t.length) (0 : UInt8) = (t ++ List.replicate (k - t.length) 0) ++ List.replicate (n - k) 0 := by
  rw [List.append_assoc, List.replicate_append_replicate]
  congr 2; omega
 have h := byteCells_put (t ++ List.replicate (k - t.length) 0) (n - k) (UInt8.ofNat t.length) (by omega)
 have hl : (t ++ List.replicate (k - t.length) (0 : UInt8)).length = k := by simp; omega
 have hx : ((UInt8.ofNat t.length).toNat : Int) = t.length := by simp; omega
 rw [hl, hx] at h
 rw [e, h]
 have ht2 : t.take k = t := List.take_of_length_le ht
 unfold fixL
 rw [ht2, show n - k - 1 = n - (k + 1) from by omega]
theorem fix_take (t : List UInt8) (k n : Nat) : (fixL t k ++ List.replicate n 0).take (k + 1) = fixL t k := List.take_left' (fixL_length t k)
end Num
set_option maxRecDepth 100000 in
set_option maxHeartbeats 400000 in
theorem Fixed_any (s : ByteArray) (hs : s.size ≤ maxLen) (n : Int) (w : World) :
 Calls Tryz.prog 63 #[.string s, .int .i64 n] w fun e w' => e = .returned (.string (Num.fixedB s (Num.sz n))) ∧ Below w.heap.size w w' := by
 unfold maxLen at hs
 have hk := Num.sz_le n
 have hzz := zero256
 go_enter Tryz.func63, Tryz.ntmps63
 go_wp2_with fail
 refine (size_any n _).mono ?_; rintro e wx ⟨rfl, rfl⟩
 generalize hK : Num.sz n = k at *
 have HK := Lib.hid hK; clear hK
 have q0 : (0 : Int) ≤ (k : Int) := by omega
 have q1 : (k : Int) ≤ 256 := by omega
 have q2 : (0 : Int) ≤ (k : Int) + 1 := by omega
 have q3 : (k : Int) + 1 ≤ 256 := by omega
 generalize hZ : byteCells (List.replicate 256 0) = Z at *
 have HZ := Lib.hid hZ; clear hZ
 by_cases hlen : s.size ≤ k
 · have hL : s.data.toList.length = s.size := by simp
   have hput := Num.fix_cells s.data.toList k 256 (by omega) (by omega) (by omega)
   have hroom : (byteCells (s.data.toList ++ List.replicate (256 - s.size) 0))[k]? = some (.int .u8 0) := by
    have h1 : s.data.toList ++ List.replicate (256 - s.size) (0 : UInt8) = (s.data.toList ++ List.replicate (k - s.size) 0) ++ List.replicate (256 - k) 0 := by
     rw [List.append_assoc, List.replicate_append_replicate]
     congr 2; omega
    have h2 := byteCells_room (s.data.toList ++ List.replicate (k - s.size) 0) (256 - k) (by omega)
    rw [h1]
    rw [show (s.data.toList ++ List.replicate (k - s.size) (0 : UInt8)).length = k from by simp; omega] at h2
    exact h2
   rw [hL] at hput
   have hc := copy_new (P := Tryz.prog) w 63 9 3 5 117 k 256 s 256 Tryz.underlying63 Tryz.size5 hlen (by omega)
   rw [HZ.out] at hc
   have HP := Lib.hid hput; clear hput
   go_wp2
   rw [HP.out, arr_take (P := Tryz.prog) _ w.heap.size 63 5 9 _ _ Tryz.underlying63 Tryz.underlying5 Tryz.underlying9 (heap_alloc_new w _) (k + 1) 256 (by simp [Num.fixL_length]), Num.fix_take]
   go_wp2
   go_ret
   refine ⟨?_, (Below.refl _ _).alloc (Nat.le_refl _) _⟩
   rw [HK.out]; rfl
 · have hx : (s.extract 0 k).data.toList = s.data.toList.take k := by
    simp [ByteArray.data_extract, Array.toList_extract]
   have hsz : (s.extract 0 k).size = k := by simp; omega
   have hput := Num.fix_cells (s.data.toList.take k) k 256 (by simp; omega) (by omega) (by simp; omega)
   have hlt : (s.data.toList.take k).length = k := by simp; omega
   have hroom : (byteCells (s.data.toList.take k ++ List.replicate (256 - k) 0))[k]? = some (.int .u8 0) := by
    have h2 := byteCells_room (s.data.toList.take k) (256 - k) (by omega)
    rw [hlt] at h2
    exact h2
   rw [hlt] at hput
   have hc := copy_new (P := Tryz.prog) w 63 9 3 5 117 k 256 (s.extract 0 k) 256 Tryz.underlying63 Tryz.size5 (by omega) (by omega)
   rw [HZ.out, hx, hsz] at hc
   have HP := Lib.hid hput; have HSZ := Lib.hid hsz; clear hput hlt hsz hx
   go_wp2
   rw [Nat.min_eq_left (Nat.le_of_not_le hlen), HP.out, arr_take (P := Tryz.prog) _ w.heap.size 63 5 9 _ _ Tryz.underlying63 Tryz.underlying5 Tryz.underlying9 (heap_alloc_new w _) (k + 1) 256 (by simp [Num.fixL_length]), Num.fix_take]
   go_wp2
   go_ret
   refine ⟨?_, (Below.refl _ _).alloc (Nat.le_refl _) _⟩
   rw [HK.out]
   unfold Num.fixedB Num.fixL
   rw [List.take_take, Nat.min_self]
   rfl
end Go.Proofs.YtliobahnekohmaaGreat
/-
  What the functions of package num come to: the cursor.
-/
namespace Go.Proofs.YtliobahnekohmaaGreat
open Go.RowKit
def Num.curV {α : Type} (bad ok : Bool) (v z : α) : α := if bad || !ok then z else v
def CurAt (Z : TypeId × List Value) (b : Nat) (s : ByteArray) (bad : Bool) (w : World) : Prop := w.heap[b]? = some (.cells (.string s :: .bool bad :: Z.2).toArray Z.1 (0, 0))
variable {Z : TypeId × List Value}
theorem CurAt.cells {b : Nat} {s : ByteArray} {bad : Bool} {w : World} (h : CurAt Z b s bad w) : w.cell? ⟨b, 0, none⟩ = some (.string s) ∧ w.cell? ⟨b, 1, none⟩ = some (.bool bad) ∧ w.frozen? ⟨b, 0, none⟩ = false ∧ w.frozen? ⟨b, 1, none⟩ = false :=
 ⟨(cell_of_row w b 0 _ _ _ h).trans (by simp), (cell_of_row w b 1 _ _ _ h).trans (by simp), frozen_of_row w b 0 _ _ h, frozen_of_row w b 1 _ _ h⟩
theorem CurAt.putS {b : Nat} {s : ByteArray} {bad : Bool} {w : World} (h : CurAt Z b s bad w) (t : ByteArray) : CurAt Z b t bad (w.setCell ⟨b, 0, none⟩ (.string t)) := by
 have := heap_setCell_same w b 0 _ _ (.string t) h
 simpa [CurAt] using this
theorem CurAt.putBad {b : Nat} {s : ByteArray} {bad : Bool} {w : World} (h : CurAt Z b s bad w) (t : Bool) : CurAt Z b s t (w.setCell ⟨b, 1, none⟩ (.bool t)) := by
 have := heap_setCell_same w b 1 _ _ (.bool t) h
 simpa [CurAt] using this
set_option maxRecDepth 100000 in
set_option maxHeartbeats 400000 in
theorem take_small (b : Nat) (s : ByteArray) (hs : s.size ≤ maxLen) (bad : Bool) (w : World) (hc : CurAt Z b s bad w) :
 Calls Tryz.prog 124 #[.pointer (some ⟨b, 0, none⟩), .func (.func 126) #[] #[]] w fun e w' => e = .returned (.int .u64 ((Num.curV bad ((Num.decp 0 0 s.data.toList).2.2) ((Num.decp 0 0 s.data.toList).1) 0 : Nat) : Int)) ∧ CurAt Z b (Num.curV bad ((Num.decp 0 0 s.data.toList).2.2) (s.extract ((Num.decp 0 0 s.data.toList).2.1) s.size) s) (bad || !(Num.decp 0 0 s.data.toList).2.2) w' ∧ w.grownBy w' (some b) := by
 have hn : (Num.decp 0 0 s.data.toList).2.2 = true → (Num.decp 0 0 s.data.toList).2.1 ≤ s.size := fun _ => by have := Num.decp_snd s.data.toList 0 0; simp at this; omega
 have hcall := fun W (hW : Below w.heap.size w W) => (small_any s hs W).mono (R' := fun e w' => e = .returned (.tuple #[.int .u64 ((Num.decp 0 0 s.data.toList).1 : Nat), .int .i64 ((Num.decp 0 0 s.data.toList).2.1 : Nat), .bool (Num.decp 0 0 s.data.toList).2.2]) ∧ Below w.heap.size w w') (fun e w' ⟨h1, h2⟩ => ⟨h1, h2 ▸ hW⟩)
 obtain ⟨c0, c1, f0, f1⟩ := hc.cells
 have HC := Lib.hid hc; have HCALL := Lib.hid hcall; have HN := Lib.hid hn
 clear hc hcall hn
 unfold maxLen at hs
 generalize (Num.decp 0 0 s.data.toList).2.2 = ok at *
 generalize (Num.decp 0 0 s.data.toList).1 = v at *
 generalize (Num.decp 0 0 s.data.toList).2.1 = n at *
 cases bad
 · go_enter Tryz.func124, Tryz.ntmps124
   go_wp2_with fail
   refine (HCALL.out _ (Below.refl _ _)).mono ?_
   rintro e w1 ⟨rfl, hb⟩
   have HC1 : Hid (CurAt Z b s false w1) := heap_keep HC.out hb
   have HG := Lib.hid (grown_of_below (row := some b) hb)
   clear hb c0 c1 f0 f1
   obtain ⟨c0, c1, f0, f1⟩ := HC1.out.cells
   cases ok
   · go_wp2
     go_ret
     exact ⟨rfl, HC1.out.putBad true, grown_trans HG.out (grown_setCell _ _ _ _)⟩
   · have h1 : (0 : Int) ≤ (n : Int) := by omega
     have h2 : (n : Int) ≤ s.size := by have := HN.out rfl; omega
     go_wp2
     go_ret
     exact ⟨rfl, HC1.out.putS _, grown_trans HG.out (grown_setCell _ _ _ _)⟩
 · go_enter Tryz.func124, Tryz.ntmps124
   go_wp2
   go_ret
   exact ⟨rfl, HC.out, grown_refl _ _⟩
end Go.Proofs.YtliobahnekohmaaGreat
/-
  What the functions of package num come to: what the cursor's calls read.
-/
namespace Go.Proofs.YtliobahnekohmaaGreat
open Go.RowKit
namespace Num
def num : List UInt8 → Nat
 | [] => 0
 | b :: r => b.toNat + 256 * num r
theorem num_append (a b : List UInt8) : num (a ++ b) = num a + 256 ^ a.length * num b := by
 induction a with
 | nil => simp [num]
 | cons x a ih =>
  show x.toNat + 256 * num (a ++ b) = x.toNat + 256 * num a + 256 ^ (a.length + 1) * num b
  rw [ih, Nat.mul_add, Nat.pow_succ, Nat.mul_comm (256 ^ a.length) 256, Nat.mul_assoc, Nat.add_assoc]
theorem num_lt (l : List UInt8) : num l < 256 ^ l.length := by
 induction l with
 | nil => simp [num]
 | cons x l ih =>
  have hx := x.toNat_lt
  show x.toNat + 256 * num l < 256 ^ (l.length + 1)
  rw [Nat.pow_succ]; omega
theorem take_byte (s : ByteArray) (k : Nat) (h : k < s.size) : s.data.toList.take (k + 1) = s.data.toList.take k ++ [s[k]] := by
 rw [List.take_succ_eq_append_getElem (by simpa using h)]; rfl
theorem num_take (s : ByteArray) (k : Nat) (h : k < s.size) : num (s.data.toList.take (k + 1)) = num (s.data.toList.take k) + s[k].toNat * 256 ^ k := by
 rw [take_byte s k h, num_append]
 have hl : (s.data.toList.take k).length = k := by simp; omega
 rw [hl]
 show _ + 256 ^ k * (s[k].toNat + 256 * 0) = _
 rw [Nat.mul_zero, Nat.add_zero, Nat.mul_comm]
theorem num_take_lt (s : ByteArray) (k : Nat) (h : k ≤ s.size) : num (s.data.toList.take k) < 256 ^ k := by
 have := num_lt (s.data.toList.take k)
 rwa [show (s.data.toList.take k).length = k from by simp; omega] at this
theorem shl8 (b k : Nat) (hb : b * 256 ^ k < 18446744073709551616) : IntKind.u64.wrap ((b : Int) * 2 ^ (8 * k)) = ((b * 256 ^ k : Nat) : Int) := by
 have h : (256 : Nat) ^ k = 2 ^ (8 * k) := (Nat.pow_mul 2 8 k).symm
 have e : (b : Int) * 2 ^ (8 * k) = ((b * 256 ^ k : Nat) : Int) := by
  rw [h, Int.natCast_mul, Int.natCast_pow]; rfl
 rw [e, wrap_small _ hb]
theorem or8 (a b k : Nat) (ha : a < 256 ^ k) (hb : a + b * 256 ^ k < 18446744073709551616) : bits BinOp.or IntKind.u64 (a : Int) ((b * 256 ^ k : Nat) : Int) = ((a + b * 256 ^ k : Nat) : Int) := by
 have h : (256 : Nat) ^ k = 2 ^ (8 * k) := (Nat.pow_mul 2 8 k).symm
 rw [u64_or_nat _ _ (by omega) (by omega)]
 congr 1
 rw [Nat.or_comm, nat_join (8 * k) _ _ (by rw [h, Nat.mul_mod_left]) (by rw [← h]; exact ha), Nat.add_comm]
end Num
set_option maxRecDepth 100000 in
set_option maxHeartbeats 400000 in
theorem wide_fn (s : ByteArray) (hs : s.size ≤ maxLen) (w : World) :
 Calls Tryz.prog 125 #[.string s] w fun e w' => e = .returned (.tuple #[.int .u64 ((if decide (8 ≤ s.size) = true then Num.num (s.data.toList.take 8) else 0 : Nat) : Int), .int .i64 ((if decide (8 ≤ s.size) = true then 8 else 0 : Nat) : Int), .bool (decide (8 ≤ s.size))]) ∧ w = w' := by
 unfold maxLen at hs
 by_cases h8 : 8 ≤ s.size
 · rw [decide_eq_true h8]
   simp only [if_true]
   generalize hF : Num.num (s.data.toList.take 8) = fin
   have HF := Lib.hid hF; clear hF
   go_enter Tryz.func125, Tryz.ntmps125
   go_wp2
   go_loop [5, 10] (fun v i => ∃ k a : Nat, k ≤ 8 ∧ i = .int .i64 k ∧ v = .int .u64 a ∧ Num.num (s.data.toList.take k) = a) (fun _ i => 8 - (intOf i).toNat)
   case atStart => exact ⟨0, 0, by omega, rfl, rfl, by simp [Num.num]⟩
   case round =>
    obtain ⟨k, a, hk, rfl, rfl, ha⟩ := hrel
    by_cases hk8 : k < 8
    · have hlt := Num.num_take_lt s k (by omega)
      have hnx := Num.num_take s k (by omega)
      have hnl := Num.num_take_lt s (k + 1) (by omega)
      rw [ha] at hlt hnx
      have hb := s[k].toNat_lt
      have h256 : 256 ^ (k + 1) ≤ 256 ^ 8 := Nat.pow_le_pow_right (by decide) (by omega)
      rw [hnx] at hnl
      have hw := Num.wrap_small s[k].toNat (by omega)
      have hs1 := Num.shl8 s[k].toNat k (by omega)
      have ho1 := Num.or8 a s[k].toNat k hlt (by omega)
      clear hlt hnl h256
      generalize hB : s[k].toNat = b at *
      obtain ⟨r, hr⟩ : ∃ r, a + b * 256 ^ k = r := ⟨_, rfl⟩
      rw [hr] at ho1
      obtain ⟨q, hq⟩ : ∃ q, b * 256 ^ k = q := ⟨_, rfl⟩
      rw [hq] at ho1 hs1
      have HQ := Lib.hid hq; have HR := Lib.hid hr; have HN := Lib.hid hnx; have HA := Lib.hid ha
      clear hq hr hnx ha
      go_wp2
      go_round
      case rel => exact ⟨k + 1, r, by omega, by go_num, rfl, by rw [HN.out, HR.out]⟩
      case measure => simp [intOf]; omega
    · obtain rfl : k = 8 := by omega
      have HA := Lib.hid ha; clear ha
      go_wp2
      go_ret3
      exact ⟨by rw [← HF.out, HA.out]; rfl, rfl⟩
 · rw [decide_eq_false h8]
   go_enter Tryz.func125, Tryz.ntmps125
   go_wp2
   go_ret3
   exact ⟨rfl, rfl⟩
namespace Num
def tOk (n : Int) (s : ByteArray) : Bool := decide (0 ≤ n ∧ n ≤ s.size)
end Num
set_option maxRecDepth 100000 in
set_option maxHeartbeats 400000 in
theorem take_fn (s : ByteArray) (_hs : s.size ≤ maxLen) (n : Int) (x : Nat) (w : World) (hx : w.cell? ⟨x, 0, none⟩ = some (.int .i64 n)) :
 Calls Tryz.prog 147 #[.string s, .pointer (some ⟨x, 0, none⟩)] w fun e w' => e = .returned (.tuple #[.string (if Num.tOk n s = true then s.extract 0 n.toNat else ByteArray.empty), .int .i64 ((if Num.tOk n s = true then n.toNat else 0 : Nat) : Int), .bool (Num.tOk n s)]) ∧ Below w.heap.size w w' := by
 by_cases h : 0 ≤ n ∧ n ≤ s.size
 · rw [show Num.tOk n s = true from decide_eq_true h]
   simp only [if_true]
   obtain ⟨h0, h1⟩ := h
   obtain ⟨m, rfl⟩ := Int.eq_ofNat_of_zero_le h0
   have d1 : decide ((m : Int) < 0) = false := by simp
   have d2 : decide ((s.size : Int) < (m : Int)) = false := by simp; omega
   go_enter Tryz.func147, Tryz.ntmps147
   go_wp2
   go_quiet (fail)
   go_wp2
   go_ret3
   exact ⟨rfl, below_drewN (Below.refl _ _) _⟩
 · rw [show Num.tOk n s = false from decide_eq_false h]
   have hd : decide (n < 0) = true ∨ (decide (n < 0) = false ∧ decide ((s.size : Int) < n) = true) := by
    by_cases hn : n < 0
    · left; simpa using hn
    · right; simp; omega
   rcases hd with hd | ⟨hd, hd2⟩
   all_goals
    go_enter Tryz.func147, Tryz.ntmps147
    go_wp2
    go_ret3
    exact ⟨rfl, Below.refl _ _⟩
namespace Num
def xOk (m : Int) (s : ByteArray) : Bool := (decp 0 0 s.data.toList).2.2 && decide (0 ≤ m ∧ ((decp 0 0 s.data.toList).1 : Int) ≤ m ∧ (decp 0 0 s.data.toList).1 + (decp 0 0 s.data.toList).2.1 ≤ s.size)
def xN (s : ByteArray) : Nat := (decp 0 0 s.data.toList).2.1 + (decp 0 0 s.data.toList).1
def xV (s : ByteArray) : ByteArray := s.extract (decp 0 0 s.data.toList).2.1 (xN s)
end Num
set_option maxRecDepth 100000 in
set_option maxHeartbeats 400000 in
theorem text_fn (s : ByteArray) (hs : s.size ≤ maxLen) (m : Int) (hm : Hid (-9223372036854775808 ≤ m ∧ m ≤ 9223372036854775807)) (x : Nat) (w : World) (hx : w.cell? ⟨x, 0, none⟩ = some (.int .i64 m)) :
 Calls Tryz.prog 150 #[.string s, .pointer (some ⟨x, 0, none⟩)] w fun e w' => e = .returned (.tuple #[.string (if Num.xOk m s = true then Num.xV s else ByteArray.empty), .int .i64 ((if Num.xOk m s = true then Num.xN s else 0 : Nat) : Int), .bool (Num.xOk m s)]) ∧ w = w' := by
 have hlt := Num.decp_lt s.data.toList 0 0 (by simp) (by omega)
 have hle : (Num.decp 0 0 s.data.toList).2.1 ≤ s.size := by have := Num.decp_snd s.data.toList 0 0; simp at this; omega
 have hcall := fun W => small_any s hs W
 have hok : Num.xOk m s = ((Num.decp 0 0 s.data.toList).2.2 && decide (0 ≤ m ∧ ((Num.decp 0 0 s.data.toList).1 : Int) ≤ m ∧ (Num.decp 0 0 s.data.toList).1 + (Num.decp 0 0 s.data.toList).2.1 ≤ s.size)) := rfl
 have hN : Num.xN s = (Num.decp 0 0 s.data.toList).2.1 + (Num.decp 0 0 s.data.toList).1 := rfl
 have hV : Num.xV s = s.extract (Num.decp 0 0 s.data.toList).2.1 (Num.xN s) := rfl
 unfold maxLen at hs
 generalize Num.decp 0 0 s.data.toList = D at *
 obtain ⟨v, n, ok⟩ := D
 simp only at *
 generalize Num.xV s = V at *
 generalize Num.xN s = N at *
 by_cases h : ok = true ∧ 0 ≤ m ∧ (v : Int) ≤ m ∧ v + n ≤ s.size
 · obtain ⟨rfl, h0, h1, h2⟩ := h
   rw [hok, Bool.true_and, decide_eq_true ⟨h0, h1, h2⟩]
   simp only [if_true]
   obtain ⟨u, rfl⟩ := Int.eq_ofNat_of_zero_le h0
   subst hN hV
   have hmm := hm.out
   have w1 := Num.wrap_small u (by omega)
   have w2 := Num.wrap_small (s.size - n) (by omega)
   rw [show ((s.size - n : Nat) : Int) = (s.size : Int) - n from by omega] at w2
   have w3 : wrap64 (v : Int) = v := IntWalk.wrap64_in _ ⟨by omega, by omega⟩
   have d1 : decide ((u : Int) < 0) = false := by simp
   have d2 : decide ((u : Int) < (v : Int)) = false := by simp; omega
   have d3 : decide ((s.size : Int) - n < (v : Int)) = false := by simp; omega
   have b1 : (n : Int) ≤ s.size := by omega
   have b2 : (n : Int) + v ≤ s.size := by omega
   have b3 : (0 : Int) ≤ (n : Int) + v := by omega
   have b4 : (n : Int) ≤ (n : Int) + v := by omega
   have HC := Lib.hid hcall; clear hcall hmm hlt h0 h2 hok
   go_enter Tryz.func150, Tryz.ntmps150
   go_wp2_with fail
   refine (HC.out _).mono ?_
   rintro e wx ⟨rfl, rfl⟩
   go_wp2_with fail
   go_ret3
   exact ⟨rfl, rfl⟩
 · have hb : (ok && decide (0 ≤ m ∧ (v : Int) ≤ m ∧ v + n ≤ s.size)) = false := by
    cases ok
    · rfl
    · simp only [Bool.true_and]; exact decide_eq_false (fun e => h ⟨rfl, e⟩)
   rw [hok, hb]
   simp only [Bool.false_eq_true, if_false]
   have HC := Lib.hid hcall; clear hcall hok hN hV hb
   have hmm := hm.out
   cases ok
   · clear hmm hlt h
     go_enter Tryz.func150, Tryz.ntmps150
     go_wp2_with fail
     refine (HC.out _).mono ?_
     rintro e wx ⟨rfl, rfl⟩
     go_wp2_with fail
     go_ret3
     exact ⟨rfl, rfl⟩
   · by_cases h0 : 0 ≤ m
     · obtain ⟨u, rfl⟩ := Int.eq_ofNat_of_zero_le h0
       have w1 := Num.wrap_small u (by omega)
       have w2 := Num.wrap_small (s.size - n) (by omega)
       rw [show ((s.size - n : Nat) : Int) = (s.size : Int) - n from by omega] at w2
       have d1 : decide ((u : Int) < 0) = false := by simp
       by_cases h1 : v ≤ u
       · have d2 : decide ((u : Int) < (v : Int)) = false := by simp; omega
         have d3 : decide ((s.size : Int) - n < (v : Int)) = true := by simp at h; simp; omega
         clear hmm hlt h
         go_enter Tryz.func150, Tryz.ntmps150
         go_wp2_with fail
         refine (HC.out _).mono ?_
         rintro e wx ⟨rfl, rfl⟩
         go_wp2_with fail
         go_ret3
         exact ⟨rfl, rfl⟩
       · have d2 : decide ((u : Int) < (v : Int)) = true := by simp; omega
         clear hmm hlt h
         go_enter Tryz.func150, Tryz.ntmps150
         go_wp2_with fail
         refine (HC.out _).mono ?_
         rintro e wx ⟨rfl, rfl⟩
         go_wp2_with fail
         go_ret3
         exact ⟨rfl, rfl⟩
     · have d1 : decide (m < 0) = true := by simp; omega
       clear hmm hlt h
       go_enter Tryz.func150, Tryz.ntmps150
       go_wp2_with fail
       refine (HC.out _).mono ?_
       rintro e wx ⟨rfl, rfl⟩
       go_wp2_with fail
       go_ret3
       exact ⟨rfl, rfl⟩
namespace Num
def byteAt (s : ByteArray) (k : Nat) : Nat := (s.data.toList.getD k 0).toNat
theorem byteAt_eq (s : ByteArray) (k : Nat) (h : k < s.size) : s[k].toNat = byteAt s k := by
 unfold byteAt
 have e : s.data.toList[k]? = some s[k] := by rw [List.getElem?_eq_getElem (by simpa using h)]; rfl
 rw [List.getD_eq_getElem?_getD, e]; rfl
theorem byteAt_lt (s : ByteArray) (k : Nat) : byteAt s k < 256 := UInt8.toNat_lt _
def fMay (k : Nat) (s : ByteArray) : Prop := k < s.size ∧ byteAt s k ≤ k
def fV (k : Nat) (s : ByteArray) : ByteArray := s.extract 0 (byteAt s k)
def fOk (k : Nat) (s : ByteArray) : Bool := decide (fixedB (fV k s) k = s.extract 0 (k + 1))
theorem fixedB_size (s : ByteArray) (k : Nat) : (fixedB s k).size = k + 1 := by
 unfold fixedB; rw [ByteArray.size_mk']; simp [fixL_length]
theorem sz_nat (k : Nat) (h : k ≤ 255) : sz (k : Int) = k := by unfold sz; omega
end Num
set_option maxRecDepth 100000 in
set_option maxHeartbeats 400000 in
theorem fixed_fn_no (s : ByteArray) (k : Nat) (_hk : k ≤ 255) (h : ¬ Num.fMay k s) (x : Nat) (w : World) (hx : w.cell? ⟨x, 0, none⟩ = some (.int .i64 k)) :
 Calls Tryz.prog 148 #[.string s, .pointer (some ⟨x, 0, none⟩)] w fun e w' => e = .returned (.tuple #[.string ByteArray.empty, .int .i64 0, .bool false]) ∧ Below w.heap.size w w' := by
 unfold Num.fMay at h
 by_cases hl : k < s.size
 · have hb := Num.byteAt_eq s k hl
   have hb2 := Num.byteAt_lt s k
   have d1 : decide ((s.size : Int) ≤ (k : Int)) = false := by simp; omega
   have d2 : decide ((k : Int) < (Num.byteAt s k : Int)) = true := by simp; omega
   have e1 : decide (s.size ≤ k) = false := by simp; omega
   have e2 : decide (k < Num.byteAt s k) = true := by simp; omega
   have q1 : (k : Int) < s.size := by omega
   have w3 : wrap64 (Num.byteAt s k : Int) = Num.byteAt s k := IntWalk.wrap64_in _ ⟨by omega, by omega⟩
   have w5 : IntKind.i64.wrap (Num.byteAt s k : Int) = Num.byteAt s k := IntWalk.i64_in _ ⟨by omega, by omega⟩
   generalize Num.byteAt s k = b at *
   clear h hb2
   go_enter Tryz.func148, Tryz.ntmps148
   go_wp2
   go_quiet (fail)
   go_wp2
   go_ret3
   exact ⟨rfl, below_drewN (Below.refl _ _) _⟩
 · have d1 : decide ((s.size : Int) ≤ (k : Int)) = true := by simp; omega
   have e1 : decide (s.size ≤ k) = true := by simp; omega
   clear h
   go_enter Tryz.func148, Tryz.ntmps148
   go_wp2
   go_quiet (fail)
   go_wp2
   go_ret3
   exact ⟨rfl, below_drewN (Below.refl _ _) _⟩
set_option maxRecDepth 100000 in
set_option maxHeartbeats 400000 in
theorem fixed_fn_yes (s : ByteArray) (k : Nat) (hk : k ≤ 255) (h : Num.fMay k s) (x : Nat) (w : World) (hx : w.cell? ⟨x, 0, none⟩ = some (.int .i64 k)) :
 Calls Tryz.prog 148 #[.string s, .pointer (some ⟨x, 0, none⟩)] w fun e w' => e = .returned (.tuple #[.string (Num.fV k s), .int .i64 ((k + 1 : Nat) : Int), .bool (Num.fOk k s)]) ∧ Below w.heap.size w w' := by
 obtain ⟨hl, h2⟩ := h
 have hb := Num.byteAt_eq s k hl
 have hb2 := Num.byteAt_lt s k
 have hfv : Num.fV k s = s.extract 0 (Num.byteAt s k) := rfl
 have hfs : (Num.fV k s).size ≤ 255 := by rw [hfv]; simp; omega
 have hok : Num.fOk k s = decide (Num.fixedB (Num.fV k s) k = s.extract 0 (k + 1)) := rfl
 have d1 : decide ((s.size : Int) ≤ (k : Int)) = false := by simp; omega
 have d2 : decide ((k : Int) < (Num.byteAt s k : Int)) = false := by simp; omega
 have e1 : decide (s.size ≤ k) = false := by simp; omega
 have e2 : decide (k < Num.byteAt s k) = false := by simp; omega
 have q1 : (k : Int) < s.size := by omega
 have q2 : (k : Int) + 1 ≤ s.size := by omega
 have q3 : (Num.byteAt s k : Int) ≤ s.size := by omega
 have q4 : (0 : Int) ≤ (k : Int) + 1 := by omega
 have w3 : wrap64 (Num.byteAt s k : Int) = Num.byteAt s k := IntWalk.wrap64_in _ ⟨by omega, by omega⟩
 have w4 : wrap64 ((k : Int) + 1) = (k : Int) + 1 := IntWalk.wrap64_in _ ⟨by omega, by omega⟩
 have w5 : IntKind.i64.wrap (Num.byteAt s k : Int) = Num.byteAt s k := IntWalk.i64_in _ ⟨by omega, by omega⟩
 have w6 : IntKind.i64.wrap ((k : Int) + 1) = (k : Int) + 1 := IntWalk.i64_in _ ⟨by omega, by omega⟩
 have w7 : ((k : Int) + 1).toNat = k + 1 := by omega
 have hsz := Num.sz_nat k hk
 generalize Num.byteAt s k = b at *
 have hfs2 : (s.extract 0 b).size ≤ 255 := by rw [← hfv]; exact hfs
 clear hfs
 have HOK := Lib.hid hok; have HFV := Lib.hid hfv; have HSZ := Lib.hid hsz
 clear hok hfv hsz hb2
 go_enter Tryz.func148, Tryz.ntmps148
 go_wp2
 go_quiet (fail)
 go_wp2
 go_region_held3 (fun W => W.cell? ⟨x, 0, none⟩ = some (.int .i64 k) ∧ Below w.heap.size w W)
  (first | exact ⟨by simpa using hx, (below_drewN (Below.refl _ _) _).drew⟩ | go_keep | (go_split_ands; exact ⟨cell_keep (by assumption) hb3, below_step (by assumption) hb3⟩))
  (first | (go_at_call 63; refine (Fixed_any _ (by unfold maxLen; omega) _ _).mono ?_; rintro e W2 ⟨rfl, hb3⟩))
 go_wp2
 go_ret3
 refine ⟨?_, by go_split_ands; assumption⟩
 rw [HSZ.out, str_beq, HOK.out, HFV.out]
 rfl
end Go.Proofs.YtliobahnekohmaaGreat
/-
  What the functions of package num come to: the cursor's calls.
-/
namespace Go.Proofs.YtliobahnekohmaaGreat
open Go.RowKit
variable {Z : TypeId × List Value}
namespace Num
def fAll (k : Nat) (s : ByteArray) : Bool := decide (k < s.size ∧ byteAt s k ≤ k) && fOk k s
def fN (k : Nat) (s : ByteArray) : Nat := if k < s.size ∧ byteAt s k ≤ k then k + 1 else 0
def fT (k : Nat) (s : ByteArray) : ByteArray := if k < s.size ∧ byteAt s k ≤ k then fV k s else ByteArray.empty
theorem xN_le (m : Int) (s : ByteArray) (h : xOk m s = true) : xN s ≤ s.size := by
 unfold xOk at h
 simp only [Bool.and_eq_true, decide_eq_true_eq] at h
 unfold xN; omega
theorem fN_le (k : Nat) (s : ByteArray) (h : fAll k s = true) : fN k s ≤ s.size := by
 unfold fAll at h
 simp only [Bool.and_eq_true, decide_eq_true_eq] at h
 unfold fN; rw [if_pos h.1]; omega
theorem tN_le (m : Int) (s : ByteArray) (h : tOk m s = true) : m.toNat ≤ s.size := by
 unfold tOk at h
 simp only [decide_eq_true_eq] at h
 omega
end Num
theorem fixed_fn (s : ByteArray) (k : Nat) (hk : k ≤ 255) (x : Nat) (w : World) (hx : w.cell? ⟨x, 0, none⟩ = some (.int .i64 k)) :
 Calls Tryz.prog 148 #[.string s, .pointer (some ⟨x, 0, none⟩)] w fun e w' => e = .returned (.tuple #[.string (Num.fT k s), .int .i64 (Num.fN k s : Nat), .bool (Num.fAll k s)]) ∧ Below w.heap.size w w' := by
 unfold Num.fT Num.fN Num.fAll
 by_cases h : k < s.size ∧ Num.byteAt s k ≤ k
 · rw [if_pos h, if_pos h, decide_eq_true h, Bool.true_and]; exact fixed_fn_yes s k hk h x w hx
 · rw [if_neg h, if_neg h, decide_eq_false h, Bool.false_and]; exact fixed_fn_no s k hk h x w hx
set_option maxRecDepth 100000 in
set_option maxHeartbeats 400000 in
theorem take_wide (b : Nat) (s : ByteArray) (hs : s.size ≤ maxLen) (bad : Bool) (w : World) (hc : CurAt Z b s bad w) :
 Calls Tryz.prog 124 #[.pointer (some ⟨b, 0, none⟩), .func (.func 125) #[] #[]] w fun e w' => e = .returned (.int .u64 ((Num.curV bad ((decide (8 ≤ s.size))) ((if decide (8 ≤ s.size) = true then Num.num (s.data.toList.take 8) else 0)) 0 : Nat) : Int)) ∧ CurAt Z b (Num.curV bad ((decide (8 ≤ s.size))) (s.extract ((if decide (8 ≤ s.size) = true then 8 else 0)) s.size) s) (bad || !(decide (8 ≤ s.size))) w' ∧ w.grownBy w' (some b) := by
 have hn : (decide (8 ≤ s.size)) = true → (if decide (8 ≤ s.size) = true then 8 else 0) ≤ s.size := fun h => by rw [if_pos h]; simpa using h
 have hcall := fun W (hW : Below w.heap.size w W) => (wide_fn s hs W).mono (R' := fun e w' => e = .returned (.tuple #[.int .u64 ((if decide (8 ≤ s.size) = true then Num.num (s.data.toList.take 8) else 0) : Nat), .int .i64 ((if decide (8 ≤ s.size) = true then 8 else 0) : Nat), .bool (decide (8 ≤ s.size))]) ∧ Below w.heap.size w w') (fun e w' ⟨h1, h2⟩ => ⟨h1, h2 ▸ hW⟩)
 obtain ⟨c0, c1, f0, f1⟩ := hc.cells
 have HC := Lib.hid hc; have HCALL := Lib.hid hcall; have HN := Lib.hid hn
 clear hc hcall hn
 unfold maxLen at hs
 generalize (if decide (8 ≤ s.size) = true then Num.num (s.data.toList.take 8) else 0) = v at *
 generalize (if decide (8 ≤ s.size) = true then 8 else 0) = n at *
 generalize (decide (8 ≤ s.size)) = ok at *
 cases bad
 · go_enter Tryz.func124, Tryz.ntmps124
   go_wp2_with fail
   refine (HCALL.out _ (Below.refl _ _)).mono ?_
   rintro e w1 ⟨rfl, hb⟩
   have HC1 : Hid (CurAt Z b s false w1) := heap_keep HC.out hb
   have HG := Lib.hid (grown_of_below (row := some b) hb)
   clear hb c0 c1 f0 f1
   obtain ⟨c0, c1, f0, f1⟩ := HC1.out.cells
   cases ok
   · go_wp2
     go_ret
     exact ⟨rfl, HC1.out.putBad true, grown_trans HG.out (grown_setCell _ _ _ _)⟩
   · have h1 : (0 : Int) ≤ (n : Int) := by omega
     have h2 : (n : Int) ≤ s.size := by have := HN.out rfl; omega
     go_wp2
     go_ret
     exact ⟨rfl, HC1.out.putS _, grown_trans HG.out (grown_setCell _ _ _ _)⟩
 · go_enter Tryz.func124, Tryz.ntmps124
   go_wp2
   go_ret
   exact ⟨rfl, HC.out, grown_refl _ _⟩
set_option maxRecDepth 100000 in
set_option maxHeartbeats 400000 in
theorem take_text (b : Nat) (s : ByteArray) (hs : s.size ≤ maxLen) (bad : Bool) (m : Int) (hm : Hid (-9223372036854775808 ≤ m ∧ m ≤ 9223372036854775807)) (x : Nat) (w : World) (hc : CurAt Z b s bad w) (hx : w.cell? ⟨x, 0, none⟩ = some (.int .i64 m)) :
 Calls Tryz.prog 146 #[.pointer (some ⟨b, 0, none⟩), .func (.func 150) #[] #[.pointer (some ⟨x, 0, none⟩)]] w fun e w' => e = .returned (.string (Num.curV bad ((Num.xOk m s)) ((if Num.xOk m s = true then Num.xV s else ByteArray.empty)) ByteArray.empty)) ∧ CurAt Z b (Num.curV bad ((Num.xOk m s)) (s.extract ((if Num.xOk m s = true then Num.xN s else 0)) s.size) s) (bad || !(Num.xOk m s)) w' ∧ w.grownBy w' (some b) := by
 have hn : (Num.xOk m s) = true → (if Num.xOk m s = true then Num.xN s else 0) ≤ s.size := fun h => by rw [if_pos h]; exact Num.xN_le m s h
 have hcall := fun W (hW : Below w.heap.size w W) => (text_fn s hs m hm x W (cell_keep hx hW)).mono (R' := fun e w' => e = .returned (.tuple #[.string (if Num.xOk m s = true then Num.xV s else ByteArray.empty), .int .i64 ((if Num.xOk m s = true then Num.xN s else 0) : Nat), .bool (Num.xOk m s)]) ∧ Below w.heap.size w w') (fun e w' ⟨h1, h2⟩ => ⟨h1, h2 ▸ hW⟩)
 obtain ⟨c0, c1, f0, f1⟩ := hc.cells
 have HC := Lib.hid hc; have HCALL := Lib.hid hcall; have HN := Lib.hid hn
 clear hc hcall hn
 unfold maxLen at hs
 generalize (if Num.xOk m s = true then Num.xV s else ByteArray.empty) = v at *
 generalize (if Num.xOk m s = true then Num.xN s else 0) = n at *
 generalize (Num.xOk m s) = ok at *
 clear hx hm
 cases bad
 · go_enter Tryz.func146, Tryz.ntmps146
   go_wp2_with fail
   refine (HCALL.out _ (Below.refl _ _)).mono ?_
   rintro e w1 ⟨rfl, hb⟩
   have HC1 : Hid (CurAt Z b s false w1) := heap_keep HC.out hb
   have HG := Lib.hid (grown_of_below (row := some b) hb)
   clear hb c0 c1 f0 f1
   obtain ⟨c0, c1, f0, f1⟩ := HC1.out.cells
   cases ok
   · go_wp2
     go_ret
     exact ⟨rfl, HC1.out.putBad true, grown_trans HG.out (grown_setCell _ _ _ _)⟩
   · have h1 : (0 : Int) ≤ (n : Int) := by omega
     have h2 : (n : Int) ≤ s.size := by have := HN.out rfl; omega
     go_wp2
     go_ret
     exact ⟨rfl, HC1.out.putS _, grown_trans HG.out (grown_setCell _ _ _ _)⟩
 · go_enter Tryz.func146, Tryz.ntmps146
   go_wp2
   go_ret
   exact ⟨rfl, HC.out, grown_refl _ _⟩
set_option maxRecDepth 100000 in
set_option maxHeartbeats 400000 in
theorem take_fixed (b : Nat) (s : ByteArray) (_hs : s.size ≤ maxLen) (bad : Bool) (k : Nat) (hk : k ≤ 255) (x : Nat) (w : World) (hc : CurAt Z b s bad w) (hx : w.cell? ⟨x, 0, none⟩ = some (.int .i64 k)) :
 Calls Tryz.prog 146 #[.pointer (some ⟨b, 0, none⟩), .func (.func 148) #[] #[.pointer (some ⟨x, 0, none⟩)]] w fun e w' => e = .returned (.string (Num.curV bad ((Num.fAll k s)) ((Num.fT k s)) ByteArray.empty)) ∧ CurAt Z b (Num.curV bad ((Num.fAll k s)) (s.extract ((Num.fN k s)) s.size) s) (bad || !(Num.fAll k s)) w' ∧ w.grownBy w' (some b) := by
 have hn : (Num.fAll k s) = true → (Num.fN k s) ≤ s.size := fun h => Num.fN_le k s h
 have hcall := fun W (hW : Below w.heap.size w W) => (fixed_fn s k hk x W (cell_keep hx hW)).mono (R' := fun e w' => e = .returned (.tuple #[.string (Num.fT k s), .int .i64 ((Num.fN k s) : Nat), .bool (Num.fAll k s)]) ∧ Below w.heap.size w w') (fun e w' ⟨h1, h2⟩ => ⟨h1, hW.trans (h2.mono hW.size)⟩)
 obtain ⟨c0, c1, f0, f1⟩ := hc.cells
 have HC := Lib.hid hc; have HCALL := Lib.hid hcall; have HN := Lib.hid hn
 clear hc hcall hn
 generalize (Num.fAll k s) = ok at *
 generalize (Num.fT k s) = v at *
 generalize (Num.fN k s) = n at *
 clear hx hk
 cases bad
 · go_enter Tryz.func146, Tryz.ntmps146
   go_wp2_with fail
   refine (HCALL.out _ (Below.refl _ _)).mono ?_
   rintro e w1 ⟨rfl, hb⟩
   have HC1 : Hid (CurAt Z b s false w1) := heap_keep HC.out hb
   have HG := Lib.hid (grown_of_below (row := some b) hb)
   clear hb c0 c1 f0 f1
   obtain ⟨c0, c1, f0, f1⟩ := HC1.out.cells
   cases ok
   · go_wp2
     go_ret
     exact ⟨rfl, HC1.out.putBad true, grown_trans HG.out (grown_setCell _ _ _ _)⟩
   · have h1 : (0 : Int) ≤ (n : Int) := by omega
     have h2 : (n : Int) ≤ s.size := by have := HN.out rfl; omega
     go_wp2
     go_ret
     exact ⟨rfl, HC1.out.putS _, grown_trans HG.out (grown_setCell _ _ _ _)⟩
 · go_enter Tryz.func146, Tryz.ntmps146
   go_wp2
   go_ret
   exact ⟨rfl, HC.out, grown_refl _ _⟩
set_option maxRecDepth 100000 in
set_option maxHeartbeats 400000 in
theorem take_take (b : Nat) (s : ByteArray) (hs : s.size ≤ maxLen) (bad : Bool) (m : Int) (x : Nat) (w : World) (hc : CurAt Z b s bad w) (hx : w.cell? ⟨x, 0, none⟩ = some (.int .i64 m)) :
 Calls Tryz.prog 146 #[.pointer (some ⟨b, 0, none⟩), .func (.func 147) #[] #[.pointer (some ⟨x, 0, none⟩)]] w fun e w' => e = .returned (.string (Num.curV bad ((Num.tOk m s)) ((if Num.tOk m s = true then s.extract 0 m.toNat else ByteArray.empty)) ByteArray.empty)) ∧ CurAt Z b (Num.curV bad ((Num.tOk m s)) (s.extract ((if Num.tOk m s = true then m.toNat else 0)) s.size) s) (bad || !(Num.tOk m s)) w' ∧ w.grownBy w' (some b) := by
 have hn : (Num.tOk m s) = true → (if Num.tOk m s = true then m.toNat else 0) ≤ s.size := fun h => by rw [if_pos h]; exact Num.tN_le m s h
 have hcall := fun W (hW : Below w.heap.size w W) => (take_fn s hs m x W (cell_keep hx hW)).mono (R' := fun e w' => e = .returned (.tuple #[.string (if Num.tOk m s = true then s.extract 0 m.toNat else ByteArray.empty), .int .i64 ((if Num.tOk m s = true then m.toNat else 0) : Nat), .bool (Num.tOk m s)]) ∧ Below w.heap.size w w') (fun e w' ⟨h1, h2⟩ => ⟨h1, hW.trans (h2.mono hW.size)⟩)
 obtain ⟨c0, c1, f0, f1⟩ := hc.cells
 have HC := Lib.hid hc; have HCALL := Lib.hid hcall; have HN := Lib.hid hn
 clear hc hcall hn
 unfold maxLen at hs
 generalize (if Num.tOk m s = true then s.extract 0 m.toNat else ByteArray.empty) = v at *
 generalize (if Num.tOk m s = true then m.toNat else 0) = n at *
 generalize (Num.tOk m s) = ok at *
 clear hx
 cases bad
 · go_enter Tryz.func146, Tryz.ntmps146
   go_wp2_with fail
   refine (HCALL.out _ (Below.refl _ _)).mono ?_
   rintro e w1 ⟨rfl, hb⟩
   have HC1 : Hid (CurAt Z b s false w1) := heap_keep HC.out hb
   have HG := Lib.hid (grown_of_below (row := some b) hb)
   clear hb c0 c1 f0 f1
   obtain ⟨c0, c1, f0, f1⟩ := HC1.out.cells
   cases ok
   · go_wp2
     go_ret
     exact ⟨rfl, HC1.out.putBad true, grown_trans HG.out (grown_setCell _ _ _ _)⟩
   · have h1 : (0 : Int) ≤ (n : Int) := by omega
     have h2 : (n : Int) ≤ s.size := by have := HN.out rfl; omega
     go_wp2
     go_ret
     exact ⟨rfl, HC1.out.putS _, grown_trans HG.out (grown_setCell _ _ _ _)⟩
 · go_enter Tryz.func146, Tryz.ntmps146
   go_wp2
   go_ret
   exact ⟨rfl, HC.out, grown_refl _ _⟩
end Go.Proofs.YtliobahnekohmaaGreat
/-
  What the functions of package num come to: the cursor's methods.
-/
namespace Go.Proofs.YtliobahnekohmaaGreat
open Go.RowKit
variable {Z : TypeId × List Value}
set_option maxHeartbeats 400000 in
theorem curSmall (b : Nat) (s : ByteArray) (hs : s.size ≤ maxLen) (bad : Bool) (w : World) (hc : CurAt Z b s bad w) :
 Calls Tryz.prog 92 #[.pointer (some ⟨b, 0, none⟩)] w fun e w' => e = .returned (.int .u64 ((Num.curV bad ((Num.decp 0 0 s.data.toList).2.2) (Num.decp 0 0 s.data.toList).1 0 : Nat) : Int)) ∧ CurAt Z b (Num.curV bad ((Num.decp 0 0 s.data.toList).2.2) (s.extract ((Num.decp 0 0 s.data.toList).2.1) s.size) s) (bad || !(Num.decp 0 0 s.data.toList).2.2) w' ∧ w.grownBy w' (some b) := by
 have ht := take_small b s hs bad w hc
 generalize (Num.decp 0 0 s.data.toList).1 = v at *
 generalize (Num.decp 0 0 s.data.toList).2.1 = n at *
 generalize (Num.decp 0 0 s.data.toList).2.2 = ok at *
 have HT := Lib.hid ht; clear ht hc
 go_enter Tryz.func92, Tryz.ntmps92
 go_wp2_with fail
 refine HT.out.mono ?_
 rintro e w1 ⟨rfl, h1, h2⟩
 have H1 := Lib.hid h1; have H2 := Lib.hid h2; clear h1 h2
 go_wp2_with fail
 go_ret
 exact ⟨rfl, H1.out, H2.out⟩
set_option maxHeartbeats 400000 in
theorem curWide (b : Nat) (s : ByteArray) (hs : s.size ≤ maxLen) (bad : Bool) (w : World) (hc : CurAt Z b s bad w) :
 Calls Tryz.prog 91 #[.pointer (some ⟨b, 0, none⟩)] w fun e w' => e = .returned (.int .u64 ((Num.curV bad ((decide (8 ≤ s.size))) (if decide (8 ≤ s.size) = true then Num.num (s.data.toList.take 8) else 0) 0 : Nat) : Int)) ∧ CurAt Z b (Num.curV bad ((decide (8 ≤ s.size))) (s.extract ((if decide (8 ≤ s.size) = true then 8 else 0)) s.size) s) (bad || !(decide (8 ≤ s.size))) w' ∧ w.grownBy w' (some b) := by
 have ht := take_wide b s hs bad w hc
 generalize (if decide (8 ≤ s.size) = true then Num.num (s.data.toList.take 8) else 0) = v at *
 generalize (if decide (8 ≤ s.size) = true then 8 else 0) = n at *
 generalize (decide (8 ≤ s.size)) = ok at *
 have HT := Lib.hid ht; clear ht hc
 go_enter Tryz.func91, Tryz.ntmps91
 go_wp2_with fail
 refine HT.out.mono ?_
 rintro e w1 ⟨rfl, h1, h2⟩
 have H1 := Lib.hid h1; have H2 := Lib.hid h2; clear h1 h2
 go_wp2_with fail
 go_ret
 exact ⟨rfl, H1.out, H2.out⟩
set_option maxHeartbeats 400000 in
theorem curText (b : Nat) (s : ByteArray) (hs : s.size ≤ maxLen) (bad : Bool) (m : Int) (hm : Hid (-9223372036854775808 ≤ m ∧ m ≤ 9223372036854775807)) (w : World) (hc : CurAt Z b s bad w) :
 Calls Tryz.prog 131 #[.pointer (some ⟨b, 0, none⟩), .int .i64 m] w fun e w' => e = .returned (.string (Num.curV bad ((Num.xOk m s)) ((if Num.xOk m s = true then Num.xV s else ByteArray.empty)) ByteArray.empty)) ∧ CurAt Z b (Num.curV bad ((Num.xOk m s)) (s.extract ((if Num.xOk m s = true then Num.xN s else 0)) s.size) s) (bad || !(Num.xOk m s)) w' ∧ w.grownBy w' (some b) := by
 have hc1 : CurAt Z b s bad (w.alloc (.cells #[.int .i64 m] 3)) := heap_keep hc ((Below.refl _ w).alloc (Nat.le_refl _) _)
 have ht := take_text b s hs bad m hm w.heap.size (w.alloc (.cells #[.int .i64 m] 3)) hc1 (cell_of_row _ _ 0 _ _ _ (heap_alloc_new w _))
 generalize (if Num.xOk m s = true then Num.xV s else ByteArray.empty) = v at *
 generalize (if Num.xOk m s = true then Num.xN s else 0) = n at *
 generalize (Num.xOk m s) = ok at *
 have HT := Lib.hid ht; clear ht hc hc1
 go_enter Tryz.func131, Tryz.ntmps131
 go_wp2_with fail
 refine HT.out.mono ?_
 rintro e w1 ⟨rfl, h1, h2⟩
 have H1 := Lib.hid h1; have H2 := Lib.hid (grown_trans (World.grownBy_alloc w _ _) h2); clear h1 h2
 go_wp2_with fail
 go_ret
 exact ⟨rfl, H1.out, H2.out⟩
set_option maxHeartbeats 400000 in
theorem curTake (b : Nat) (s : ByteArray) (hs : s.size ≤ maxLen) (bad : Bool) (m : Int) (w : World) (hc : CurAt Z b s bad w) :
 Calls Tryz.prog 127 #[.pointer (some ⟨b, 0, none⟩), .int .i64 m] w fun e w' => e = .returned (.string (Num.curV bad ((Num.tOk m s)) ((if Num.tOk m s = true then s.extract 0 m.toNat else ByteArray.empty)) ByteArray.empty)) ∧ CurAt Z b (Num.curV bad ((Num.tOk m s)) (s.extract ((if Num.tOk m s = true then m.toNat else 0)) s.size) s) (bad || !(Num.tOk m s)) w' ∧ w.grownBy w' (some b) := by
 have hc1 : CurAt Z b s bad (w.alloc (.cells #[.int .i64 m] 3)) := heap_keep hc ((Below.refl _ w).alloc (Nat.le_refl _) _)
 have ht := take_take b s hs bad m w.heap.size (w.alloc (.cells #[.int .i64 m] 3)) hc1 (cell_of_row _ _ 0 _ _ _ (heap_alloc_new w _))
 generalize (if Num.tOk m s = true then s.extract 0 m.toNat else ByteArray.empty) = v at *
 generalize (if Num.tOk m s = true then m.toNat else 0) = n at *
 generalize (Num.tOk m s) = ok at *
 have HT := Lib.hid ht; clear ht hc hc1
 go_enter Tryz.func127, Tryz.ntmps127
 go_wp2_with fail
 refine HT.out.mono ?_
 rintro e w1 ⟨rfl, h1, h2⟩
 have H1 := Lib.hid h1; have H2 := Lib.hid (grown_trans (World.grownBy_alloc w _ _) h2); clear h1 h2
 go_wp2_with fail
 go_ret
 exact ⟨rfl, H1.out, H2.out⟩
set_option maxHeartbeats 400000 in
theorem curFixed (b : Nat) (s : ByteArray) (hs : s.size ≤ maxLen) (bad : Bool) (k : Int) (w : World) (hc : CurAt Z b s bad w) :
 Calls Tryz.prog 128 #[.pointer (some ⟨b, 0, none⟩), .int .i64 k] w fun e w' => e = .returned (.string (Num.curV bad ((Num.fAll (Num.sz k) s)) ((Num.fT (Num.sz k) s)) ByteArray.empty)) ∧ CurAt Z b (Num.curV bad ((Num.fAll (Num.sz k) s)) (s.extract ((Num.fN (Num.sz k) s)) s.size) s) (bad || !(Num.fAll (Num.sz k) s)) w' ∧ w.grownBy w' (some b) := by
 go_enter Tryz.func128, Tryz.ntmps128
 have HC := Lib.hid hc; clear hc
 go_wp2_with fail
 refine (size_any k _).mono ?_; rintro e wx ⟨rfl, rfl⟩
 have hc1 : CurAt Z b s bad (w.alloc (.cells #[.int .i64 (Num.sz k : Nat)] 3)) := heap_keep HC.out ((Below.refl _ w).alloc (Nat.le_refl _) _)
 have ht := take_fixed b s hs bad (Num.sz k) (Num.sz_le k) w.heap.size (w.alloc (.cells #[.int .i64 (Num.sz k : Nat)] 3)) hc1 (cell_of_row _ _ 0 _ _ _ (heap_alloc_new w _))
 have HT := Lib.hid ht; clear ht hc1
 generalize hK : Num.sz k = kk at *
 have HK := Lib.hid hK; clear hK
 go_wp2_with fail
 refine HT.out.mono ?_
 rintro e w1 ⟨rfl, h1, h2⟩
 have H1 := Lib.hid h1; have H2 := Lib.hid (grown_trans (World.grownBy_alloc w _ _) h2); clear h1 h2
 go_wp2_with fail
 go_ret
 have hk := HK.out
 subst hk
 exact ⟨rfl, H1.out, H2.out⟩
end Go.Proofs.YtliobahnekohmaaGreat
