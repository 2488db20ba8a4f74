import Derived.Test.YtliobahnekohmaaGreatArr
import Derived.Deep.DeepMust
/-
  The plain mathematics of CRC-32C: bit by bit, and half a byte at a time, over natural numbers.
-/
namespace Go.Proofs.YtliobahnekohmaaGreat
namespace Crc
def poly : Nat := 2197175160
def step (c : Nat) : Nat := if c % 2 = 1 then (c / 2) ^^^ poly else c / 2
def steps : Nat → Nat → Nat
 | 0, c => c
 | n + 1, c => steps n (step c)
def byte (c b : Nat) : Nat := steps 8 (c ^^^ b)
def run (c : Nat) (l : List UInt8) : Nat := l.foldl (fun c b => byte c b.toNat) c
theorem poly_lt : poly < 4294967296 := by decide
theorem xor_lt {a b : Nat} (ha : a < 4294967296) (hb : b < 4294967296) : a ^^^ b < 4294967296 :=
 Nat.xor_lt_two_pow (n := 32) ha hb
theorem step_lt {c : Nat} (h : c < 4294967296) : step c < 4294967296 := by
 unfold step; split
 · exact xor_lt (by omega) poly_lt
 · omega
theorem steps_lt (n : Nat) : ∀ {c : Nat}, c < 4294967296 → steps n c < 4294967296 := by
 induction n with
 | zero => exact fun h => h
 | succ n ih => exact fun h => ih (step_lt h)
theorem byte_lt {c b : Nat} (h : c < 4294967296) (hb : b < 4294967296) : byte c b < 4294967296 := steps_lt 8 (xor_lt h hb)
theorem u8_lt (b : UInt8) : b.toNat < 4294967296 := by have := b.toNat_lt; omega
theorem run_lt (l : List UInt8) : ∀ {c : Nat}, c < 4294967296 → run c l < 4294967296 := by
 induction l with
 | nil => exact fun h => h
 | cons b l ih => exact fun h => ih (byte_lt h (u8_lt b))
theorem run_append (c : Nat) (a b : List UInt8) : run c (a ++ b) = run (run c a) b := by
 unfold run; rw [List.foldl_append]
theorem xor_top (c : Nat) (h : c < 4294967296) : 4294967295 ^^^ c = 4294967295 - c := by
 apply Nat.eq_of_testBit_eq
 intro i
 have e1 : 4294967295 - c = 2 ^ 32 - (c + 1) := by omega
 have e2 : (4294967295 : Nat) = 2 ^ 32 - 1 := rfl
 rw [Nat.testBit_xor, e1, Nat.testBit_two_pow_sub_succ (by omega), e2, Nat.testBit_two_pow_sub_one]
 by_cases hi : i < 32
 · simp [hi]
 · have : c.testBit i = false := Nat.testBit_lt_two_pow (Nat.lt_of_lt_of_le h (Nat.pow_le_pow_right (by decide) (Nat.not_lt.1 hi) : 2 ^ 32 ≤ 2 ^ i))
   simp [hi, this]
theorem take_snoc (s : ByteArray) (k : Nat) (h : k < s.size) : s.data.toList.take (k + 1) = s.data.toList.take k ++ [s[k]] := by
 rw [List.take_succ_eq_append_getElem (by simpa using h)]; rfl
theorem run_take (c : Nat) (s : ByteArray) (k : Nat) (h : k < s.size) : run c (s.data.toList.take (k + 1)) = steps 8 (run c (s.data.toList.take k) ^^^ s[k].toNat) := by
 rw [take_snoc s k h, run_append]; rfl
theorem steps_succ (n : Nat) : ∀ c, steps (n + 1) c = step (steps n c) := by
 induction n with
 | zero => exact fun c => rfl
 | succ n ih => exact fun c => ih (step c)
theorem steps_add (m n : Nat) : ∀ c, steps (m + n) c = steps n (steps m c) := by
 induction m with
 | zero => intro c; simp [steps]
 | succ m ih => intro c; rw [Nat.succ_add]; exact ih (step c)
theorem xor_half (a b : Nat) : (a ^^^ b) / 2 = (a / 2) ^^^ (b / 2) := by
 have := Nat.shiftRight_xor_distrib (a := a) (b := b) (i := 1)
 simpa [Nat.shiftRight_succ] using this
theorem xor_odd (a b : Nat) : (a ^^^ b) % 2 = (a % 2 + b % 2) % 2 := by
 have h := Nat.testBit_xor a b 0
 simp only [Nat.testBit_zero] at h
 rcases Nat.mod_two_eq_zero_or_one a with ha | ha <;> rcases Nat.mod_two_eq_zero_or_one b with hb | hb <;> rcases Nat.mod_two_eq_zero_or_one (a ^^^ b) with hc | hc <;> simp_all
theorem step_xor (a b : Nat) : step (a ^^^ b) = step a ^^^ step b := by
 unfold step
 rw [xor_odd, xor_half]
 rcases Nat.mod_two_eq_zero_or_one a with ha | ha <;> rcases Nat.mod_two_eq_zero_or_one b with hb | hb <;> simp only [ha, hb]
 · simp
 · simp [Nat.xor_assoc]
 · simp only [if_true, Nat.zero_ne_one, if_false]
   rw [Nat.xor_assoc, Nat.xor_comm (b / 2) poly, ← Nat.xor_assoc]
 · have : a / 2 ^^^ poly ^^^ (b / 2 ^^^ poly) = a / 2 ^^^ b / 2 := by
    rw [Nat.xor_comm (b / 2) poly, ← Nat.xor_assoc, Nat.xor_assoc (a / 2) poly poly, Nat.xor_self, Nat.xor_zero]
   simp [this]
theorem steps_xor (n : Nat) : ∀ a b, steps n (a ^^^ b) = steps n a ^^^ steps n b := by
 induction n with
 | zero => exact fun a b => rfl
 | succ n ih => intro a b; simp only [steps]; rw [step_xor, ih]
theorem step_two (q : Nat) : step (2 * q) = q := by
 unfold step; rw [if_neg (by omega)]; omega
theorem steps4_sixteen (q : Nat) : steps 4 (16 * q) = q := by
 have h1 : 16 * q = 2 * (2 * (2 * (2 * q))) := by omega
 rw [h1]; simp only [steps, step_two]
theorem join16 (q r : Nat) (h : r < 16) : (16 * q) ^^^ r = 16 * q + r := by
 apply Nat.eq_of_testBit_eq
 intro i
 rw [Nat.testBit_xor]
 have e : 16 * q + r = 2 ^ 4 * q + r := rfl
 rw [e, Nat.testBit_two_pow_mul_add _ h, show 16 * q = 2 ^ 4 * q from rfl, Nat.testBit_two_pow_mul]
 by_cases hi : i < 4
 · simp [hi, Nat.not_le.2 hi]
 · have : r.testBit i = false := Nat.testBit_lt_two_pow (Nat.lt_of_lt_of_le h (Nat.pow_le_pow_right (by decide) (Nat.not_lt.1 hi) : 2 ^ 4 ≤ 2 ^ i))
   simp [hi, this, Nat.not_lt.1 hi]
theorem steps4 (c : Nat) : steps 4 c = (c / 16) ^^^ steps 4 (c % 16) := by
 have h : c = (16 * (c / 16)) ^^^ (c % 16) := by rw [join16 _ _ (by omega)]; omega
 conv => lhs; rw [h]
 rw [steps_xor, steps4_sixteen]
theorem run_take2 (c : Nat) (s : ByteArray) (k : Nat) (h : k < s.size) : run c (s.data.toList.take (k + 1)) = steps 4 (steps 4 (run c (s.data.toList.take k) ^^^ s[k].toNat)) := by
 rw [run_take c s k h]; exact steps_add 4 4 _
end Crc
end Go.Proofs.YtliobahnekohmaaGreat
/-
  What the functions of the reference alluviumref01 come to: run.
-/
namespace Go.Proofs.YtliobahnekohmaaGreat
open Go.RowKit
set_option maxHeartbeats 400000 in
theorem run_any (c : Nat) (hc : c < 4294967296) (s : ByteArray) (hs : s.size ≤ maxLen) (w : World) :
 Calls Tryz.prog 110 #[.int .u32 c, .string s] w fun e w' => e = .returned (.int .u32 (Crc.run c s.data.toList)) ∧ w = w' := by
 unfold maxLen at hs
 go_enter Tryz.func110, Tryz.ntmps110
 go_wp2
 go_loop [0, 5] (fun v i => ∃ k : Nat, k ≤ s.size ∧ i = .int .i64 k ∧ v = .int .u32 (Crc.run c (s.data.toList.take k))) (fun _ i => s.size - (intOf i).toNat)
 case atStart => exact ⟨0, Nat.zero_le _, rfl, rfl⟩
 case round =>
  obtain ⟨k, hk, rfl, rfl⟩ := hrel
  have hlt := Crc.run_lt (s.data.toList.take k) hc
  generalize hR : Crc.run c (s.data.toList.take k) = r at *
  have HR := Lib.hid hR; clear hR
  by_cases h : k < s.size
  · have hb := Crc.u8_lt s[k]
    have hx : bits BinOp.xor IntKind.u32 (r : Int) (s[k].toNat : Int) = ((r ^^^ s[k].toNat : Nat) : Int) := u32_xor_nat _ _ hlt hb
    have hc1 := Crc.xor_lt hlt hb
    have HB : Hid (Crc.run c (s.data.toList.take (k + 1)) = Crc.steps 8 (r ^^^ s[k].toNat)) := by
     rw [← HR.out]; exact Crc.run_take c s k h
    generalize r ^^^ s[k].toNat = c1 at *
    go_wp2
    clear hx
    go_loop [0, 6] (fun v j => ∃ m : Nat, m ≤ 8 ∧ j = .int .i64 m ∧ v = .int .u32 (Crc.steps m c1)) (fun _ j => 8 - (intOf j).toNat)
    case atStart => exact ⟨0, by omega, rfl, rfl⟩
    case round =>
     obtain ⟨m, hm, rfl, rfl⟩ := hrel
     have hlt2 := Crc.steps_lt m hc1
     have hs := Crc.steps_succ m c1
     generalize hR2 : Crc.steps m c1 = c2 at *
     have HR2 := Lib.hid hR2; clear hR2
     have HS := Lib.hid hs; clear hs
     by_cases hm8 : m < 8
     · by_cases hodd : c2 % 2 = 1
       · have hx2 : bits BinOp.xor IntKind.u32 ((c2 : Int) / 2) 2197175160 = ((c2 / 2 ^^^ Crc.poly : Nat) : Int) :=
          u32_xor_nat (c2 / 2) Crc.poly (by omega) Crc.poly_lt
         go_wp2
         go_round
         case rel => exact ⟨m + 1, by omega, by go_num, by rw [HS.out, Crc.step, if_pos hodd]⟩
         case measure => simp [intOf]; omega
       · go_wp2
         go_round
         case rel => exact ⟨m + 1, by omega, by go_num, by rw [HS.out, Crc.step, if_neg hodd]; go_num⟩
         case measure => simp [intOf]; omega
     · go_wp2
       go_round
       case rel => exact ⟨k + 1, by omega, by go_num, by rw [HB.out, ← HR2.out, show m = 8 from by omega]⟩
       case measure => simp [intOf]; omega
  · go_wp2
    go_ret
    exact ⟨ret_int (by rw [← HR.out, List.take_of_length_le (by simp; omega)]), rfl⟩
end Go.Proofs.YtliobahnekohmaaGreat
/-
  What the functions of package crc come to: halves, On, Of, Tail, Good.
-/
namespace Go.Proofs.YtliobahnekohmaaGreat
open Go.RowKit
namespace Crc
def part (k : Nat) : Array Value := (List.map (fun i : Nat => Value.int .u32 (if i < k then steps 4 i else 0 : Nat)) (List.range 16)).toArray
theorem part_zero : part 0 = #[.int .u32 0, .int .u32 0, .int .u32 0, .int .u32 0, .int .u32 0, .int .u32 0, .int .u32 0, .int .u32 0, .int .u32 0, .int .u32 0, .int .u32 0, .int .u32 0, .int .u32 0, .int .u32 0, .int .u32 0, .int .u32 0] := rfl
theorem part_size (k : Nat) : (part k).size = 16 := by simp [part]
theorem part_get (k i : Nat) (h : i < 16) : (part k)[i]? = some (.int .u32 (if i < k then steps 4 i else 0 : Nat)) := by
 simp [part, h]
theorem part_set (k : Nat) (h : k < 16) : (part k).setIfInBounds k (.int .u32 (steps 4 k : Nat)) = part (k + 1) := by
 apply Array.ext_getElem?
 intro i
 rw [Array.getElem?_setIfInBounds]
 by_cases hi : i < 16
 · rw [part_get _ _ hi, part_get _ _ hi, part_size]
   by_cases e : k = i
   · subst e; simp [h]
   · simp only [e, if_false]
     by_cases hk : i < k
     · rw [if_pos hk, if_pos (by omega)]
     · rw [if_neg hk, if_neg (by omega)]
 · have h1 : (part k)[i]? = none := by simp [part_size]; omega
   have h2 : (part (k + 1))[i]? = none := by simp [part_size]; omega
   rw [h1, h2, part_size, if_neg (by omega)]
def tab : Array Value := part 16
theorem part_all : part 16 = #[.int .u32 0, .int .u32 274646895, .int .u32 549293790, .int .u32 820201905, .int .u32 1098587580, .int .u32 1361435347, .int .u32 1640403810, .int .u32 1905808397, .int .u32 2197175160, .int .u32 2460548119, .int .u32 2722870694, .int .u32 2987750089, .int .u32 3280807620, .int .u32 3553878443, .int .u32 3811616794, .int .u32 4084100981] := by
 simp [part, steps, step, poly, List.range_succ]
theorem tab_get (i : Nat) (h : i < 16) : tab[i]? = some (.int .u32 (steps 4 i : Nat)) := by
 unfold tab; rw [part_get _ _ h, if_pos h]
end Crc
set_option maxRecDepth 100000 in
set_option maxHeartbeats 400000 in
theorem halves_any (w : World) :
 Calls Tryz.prog 140 #[] w fun e w' => e = .returned (.agg Crc.tab) ∧ Below w.heap.size w w' := by
 go_enter Tryz.func140, Tryz.ntmps140
 go_wp2
 rw [← Crc.part_zero]
 go_loopw [5] (fun v wr => ∃ k : Nat, k ≤ 16 ∧ v = .int .i64 k ∧ wr = (w.alloc (.cells (Crc.part 0) 166)).alloc (.cells (Crc.part k) 166)) (fun v _ => 16 - (intOf v).toNat)
 case atStart => exact ⟨0, Nat.zero_le _, rfl, rfl⟩
 case round =>
  obtain ⟨k, hk, rfl, rfl⟩ := hrel
  by_cases h : k < 16
  · go_wp2
    go_loop [3, 10] (fun v j => ∃ m : Nat, m ≤ 4 ∧ j = .int .i64 m ∧ v = .int .u32 (Crc.steps m k : Nat)) (fun _ j => 4 - (intOf j).toNat)
    case atStart => exact ⟨0, by omega, rfl, rfl⟩
    case round =>
     obtain ⟨m, hm, rfl, rfl⟩ := hrel
     have hlt2 : Crc.steps m k < 4294967296 := Crc.steps_lt m (by omega)
     have hs := Crc.steps_succ m k
     generalize hR2 : Crc.steps m k = c2 at *
     have HR2 := Lib.hid hR2; clear hR2
     have HS := Lib.hid hs; clear hs
     have hand : bits BinOp.and IntKind.u32 (c2 : Int) 1 = ((c2 % 2 : Nat) : Int) := by
      rw [← nat_mask1]; exact u32_and_nat c2 1 hlt2 (by decide)
     by_cases hm4 : m < 4
     · by_cases hodd : c2 % 2 = 1
       · have hx2 : bits BinOp.xor IntKind.u32 ((c2 : Int) / 2) 2197175160 = ((c2 / 2 ^^^ Crc.poly : Nat) : Int) :=
          u32_xor_nat (c2 / 2) Crc.poly (by omega) Crc.poly_lt
         go_wp2
         go_round
         case rel => exact ⟨m + 1, by omega, by go_num, by rw [HS.out, Crc.step, if_pos hodd]⟩
         case measure => simp [intOf]; omega
       · go_wp2
         go_round
         case rel => exact ⟨m + 1, by omega, by go_num, by rw [HS.out, Crc.step, if_neg hodd]; go_num⟩
         case measure => simp [intOf]; omega
     · obtain rfl : m = 4 := by omega
       have hc := Crc.part_get k k h
       generalize Value.int .u32 ((if k < k then Crc.steps 4 k else 0 : Nat) : Int) = v0 at hc
       go_wp2
       go_roundw
       case rel => exact ⟨k + 1, by omega, by go_num, by rw [← HR2.out, Crc.part_set k h]⟩
       case measure => simp [intOf]; omega
  · obtain rfl : k = 16 := by omega
    rw [Crc.part_all, Crc.part_zero]
    go_wp2
    refine bodyPost_ret (v := .agg Crc.tab) (by rw [Crc.tab, Crc.part_all]; simp [results, Tryz.results140, go_sem]) rfl ⟨rfl, ?_⟩
    exact ((Below.refl _ _).alloc (Nat.le_refl _) _).alloc (by simp) _
end Go.Proofs.YtliobahnekohmaaGreat
/-
  What the functions of package crc come to: On, Of, Tail, Good.
-/
namespace Go.Proofs.YtliobahnekohmaaGreat
open Go.RowKit
theorem not_u32 (c : Nat) (h : c < 4294967296) : bits BinOp.xor IntKind.u32 IntKind.u32.max (c : Int) = ((4294967295 - c : Nat) : Int) := by
 rw [← Crc.xor_top c h]; exact u32_xor_nat 4294967295 c (by decide) h
theorem and15_u32 (c : Nat) (h : c < 4294967296) : bits BinOp.and IntKind.u32 (c : Int) 15 = ((c % 16 : Nat) : Int) := by
 rw [← nat_mask4]; exact u32_and_nat c 15 h (by decide)
set_option maxRecDepth 100000 in
set_option maxHeartbeats 400000 in
theorem On_any (c : Nat) (hc : c < 4294967296) (s : ByteArray) (hs : s.size ≤ maxLen) (w : World) :
 Calls Tryz.prog 109 #[.int .u32 c, .string s] w fun e w' => e = .returned (.int .u32 (4294967295 - Crc.run (4294967295 - c) s.data.toList : Nat)) ∧ Below w.heap.size w w' := by
 unfold maxLen at hs
 have hn := not_u32 c hc
 have hn2 := not_u32 (Crc.run (4294967295 - c) s.data.toList) (Crc.run_lt _ (by omega))
 have HN2 := Lib.hid hn2; clear hn2
 go_enter Tryz.func109, Tryz.ntmps109
 go_wp2_with (go_at_call 140; refine (halves_any _).mono ?_; rintro e w1 ⟨rfl, hb⟩; have HB := Lib.hid hb; clear hb; rw [Crc.tab, Crc.part_all])
 rw [← Crc.part_all]
 have hc' : 4294967295 - c < 4294967296 := by omega
 clear hn
 generalize hC : 4294967295 - c = c0 at *
 go_loop [0, 12] (fun v i => ∃ k : Nat, k ≤ s.size ∧ i = .int .i64 k ∧ v = .int .u32 (Crc.run c0 (s.data.toList.take k))) (fun _ i => s.size - (intOf i).toNat)
 case atStart => exact ⟨0, Nat.zero_le _, rfl, rfl⟩
 case round =>
  obtain ⟨k, hk, rfl, rfl⟩ := hrel
  have hlt := Crc.run_lt (s.data.toList.take k) hc'
  by_cases h : k < s.size
  · have hT := Crc.run_take2 c0 s k h
    have hb := Crc.u8_lt s[k]
    generalize Crc.run c0 (s.data.toList.take k) = r at *
    have hx : bits BinOp.xor IntKind.u32 (r : Int) (s[k].toNat : Int) = ((r ^^^ s[k].toNat : Nat) : Int) := u32_xor_nat _ _ hlt hb
    have hxl := Crc.xor_lt hlt hb
    generalize r ^^^ s[k].toNat = x at *
    have ha := and15_u32 x hxl
    have hy : bits BinOp.xor IntKind.u32 ((x : Int) / 16) (Crc.steps 4 (x % 16) : Nat) = (Crc.steps 4 x : Nat) := by
     rw [Crc.steps4 x]; exact u32_xor_nat (x / 16) _ (by omega) (Crc.steps_lt 4 (by omega))
    have ht := Crc.tab_get (x % 16) (by omega)
    unfold Crc.tab at ht
    generalize Crc.steps 4 (x % 16) = t1 at *
    have hyl := Crc.steps_lt 4 hxl
    generalize Crc.steps 4 x = y at *
    have ha2 := and15_u32 y hyl
    have hz : bits BinOp.xor IntKind.u32 ((y : Int) / 16) (Crc.steps 4 (y % 16) : Nat) = (Crc.steps 4 y : Nat) := by
     rw [Crc.steps4 y]; exact u32_xor_nat (y / 16) _ (by omega) (Crc.steps_lt 4 (by omega))
    have ht2 := Crc.tab_get (y % 16) (by omega)
    unfold Crc.tab at ht2
    generalize Crc.steps 4 (y % 16) = t2 at *
    generalize Crc.steps 4 y = z at *
    have HT := Lib.hid hT; clear hT
    go_wp2
    go_round
    case rel => exact ⟨k + 1, by omega, by go_num, by rw [HT.out]⟩
    case measure => simp [intOf]; omega
  · have hE : Crc.run c0 (s.data.toList.take k) = Crc.run c0 s.data.toList := by rw [List.take_of_length_le (by simp; omega)]
    rw [hE] at *
    have hn2 := HN2.out
    clear hE
    go_wp2
    go_ret
    exact ⟨rfl, HB.out.alloc (HB.out.size) _⟩
end Go.Proofs.YtliobahnekohmaaGreat
/-
  What the functions of package crc come to: Of, Tail, Good.
-/
namespace Go.Proofs.YtliobahnekohmaaGreat
open Go.RowKit
namespace Crc
def ofB (s : ByteArray) : Nat := 4294967295 - run 4294967295 s.data.toList
def fourL (c : Nat) : List Int := [(c : Int) % 256, (c : Int) / 256 % 256, (c : Int) / 65536 % 256, (c : Int) / 16777216]
def four (c : Nat) : ByteArray := strOfNums (fourL c)
def good (s : ByteArray) : ByteArray × Bool :=
 if s.size < 4 then (ByteArray.empty, false)
 else if s.extract (s.size - 4) s.size = four (ofB (s.extract 0 (s.size - 4))) then (s.extract 0 (s.size - 4), true) else (ByteArray.empty, false)
theorem ofB_lt (s : ByteArray) : ofB s < 4294967296 := by unfold ofB; omega
end Crc
set_option maxRecDepth 100000 in
set_option maxHeartbeats 400000 in
theorem Of_any (s : ByteArray) (hs : s.size ≤ maxLen) (w : World) :
 Calls Tryz.prog 70 #[.string s] w fun e w' => e = .returned (.int .u32 (Crc.ofB s : Nat)) ∧ Below w.heap.size w w' := by
 go_enter Tryz.func70, Tryz.ntmps70
 go_wp2_with (go_at_call 109; refine (On_any 0 (by omega) s hs _).mono ?_; rintro e w1 ⟨rfl, hb⟩; have HB := Lib.hid hb; clear hb)
 go_ret
 exact ⟨rfl, HB.out⟩
theorem four_back (w : World) (b : Nat) (c : Nat) (hc : w.heap[b]? = some (.cells #[.int .u8 ((c : Int) % 256), .int .u8 ((c : Int) / 256 % 256), .int .u8 ((c : Int) / 65536 % 256), .int .u8 ((c : Int) / 16777216)] 5 (0, 0))) :
 (convert 63 9 (.slice (some ⟨b, 0, none⟩) 4 4)).run Tryz.prog w = .ok (.string (Crc.four c)) w :=
 run_convert_bytes_arg (P := Tryz.prog) w 63 5 Tryz.underlying63 Tryz.underlying5 b 0 4 4 (Crc.fourL c) rfl (fun i hi => by
  rw [Nat.zero_add, cell_of_row w b i _ _ _ hc]
  match i, hi with
  | 0, _ => rfl
  | 1, _ => rfl
  | 2, _ => rfl
  | 3, _ => rfl) 9 Tryz.underlying9
set_option maxRecDepth 100000 in
set_option maxHeartbeats 400000 in
theorem Tail_any (s : ByteArray) (hs : s.size ≤ maxLen) (w : World) :
 Calls Tryz.prog 34 #[.string s] w fun e w' => e = .returned (.string (Crc.four (Crc.ofB s))) ∧ Below w.heap.size w w' := by
 go_enter Tryz.func34, Tryz.ntmps34
 have hlt := Crc.ofB_lt s
 go_wp2_with (go_at_call 70; refine (Of_any s hs _).mono ?_; rintro e w1 ⟨rfl, hb⟩; have HB := Lib.hid hb; clear hb; generalize hC : Crc.ofB s = c at *; have HC := Lib.hid hC; clear hC)
 rw [four_back _ _ c (heap_alloc_new w1 _)]
 go_wp2
 go_ret
 exact ⟨by rw [HC.out]; rfl, HB.out.alloc HB.out.size _⟩
set_option maxRecDepth 100000 in
set_option maxHeartbeats 400000 in
theorem Good_any (s : ByteArray) (hs : s.size ≤ maxLen) (w : World) :
 Calls Tryz.prog 56 #[.string s] w fun e w' => e = .returned (.tuple #[.string (Crc.good s).1, .bool (Crc.good s).2]) ∧ Below w.heap.size w w' := by
 by_cases hlt : s.size < 4
 · have hg : Crc.good s = (ByteArray.empty, false) := by unfold Crc.good; rw [if_pos hlt]
   rw [hg]
   have hd : decide ((s.size : Int) - 4 < 0) = true := by simp; omega
   clear hg
   go_enter Tryz.func56, Tryz.ntmps56
   go_wp2
   go_quiet (fail)
   go_wp2
   go_ret2
   exact ⟨rfl, below_drewN (Below.refl _ _) _⟩
 · obtain ⟨n, hn⟩ : ∃ n : Nat, s.size - 4 = n := ⟨_, rfl⟩
   have hg : Crc.good s = if s.extract n s.size = Crc.four (Crc.ofB (s.extract 0 n)) then (s.extract 0 n, true) else (ByteArray.empty, false) := by
    unfold Crc.good; rw [if_neg hlt, hn]
   have hb := str_beq (s.extract n s.size) (Crc.four (Crc.ofB (s.extract 0 n)))
   have h0 : (s.size : Int) - 4 = n := by omega
   have h1 : (0 : Int) ≤ (n : Int) := by omega
   have h2 : (n : Int) ≤ s.size := by omega
   have hd : decide ((n : Int) < 0) = false := by simp
   unfold maxLen at hs
   clear hn
   have HB := Lib.hid hb; clear hb
   have HG := Lib.hid hg; clear hg
   go_enter Tryz.func56, Tryz.ntmps56
   go_wp2
   go_region_held3 (fun w' => Below w.heap.size w w') (first | exact Below.refl _ _ | exact Below.drew (Below.refl _ _) | assumption | exact Below.drew ‹_›)
    (first | (go_at_call 34; refine (Tail_any _ (by unfold maxLen; simp; omega) _).mono ?_; rintro e w1 ⟨rfl, hb⟩; replace hb := below_step (by assumption) hb))
   go_wp2
   · have ht : (!((s.extract n s.size).toList == (Crc.four (Crc.ofB (s.extract 0 n))).toList)) = true := by assumption
     go_ret2
     rw [HB.out] at ht
     rw [HG.out, if_neg (by simpa using ht)]
     exact ⟨rfl, hb⟩
   · have ht : (!((s.extract n s.size).toList == (Crc.four (Crc.ofB (s.extract 0 n))).toList)) = false := by assumption
     go_ret2
     rw [HB.out] at ht
     rw [HG.out, if_pos (by simpa using ht)]
     exact ⟨rfl, hb⟩
end Go.Proofs.YtliobahnekohmaaGreat
/-
  What the functions of the reference alluviumref01 come to: Of, On, Tail, Good.
-/
namespace Go.Proofs.YtliobahnekohmaaGreat
open Go.RowKit
theorem Crc.fourL_take (c k : Nat) (hc : c < 4294967296) (h : k < 4) : (fourL c).take (k + 1) = (fourL c).take k ++ [((c / 256 ^ k : Nat) : Int) % 256] := by
 unfold fourL
 obtain rfl | rfl | rfl | rfl : k = 0 ∨ k = 1 ∨ k = 2 ∨ k = 3 := by omega
 all_goals simp only [List.take, List.nil_append, List.cons_append, List.cons.injEq, true_and, and_true, Nat.reducePow, Nat.div_one]
 all_goals omega
set_option maxHeartbeats 400000 in
set_option maxRecDepth 100000 in
theorem rOf_any (s : ByteArray) (hs : s.size ≤ maxLen) (w : World) :
 Calls Tryz.prog 80 #[.string s] w fun e w' => e = .returned (.int .u32 (Crc.ofB s : Nat)) ∧ w = w' := by
 have hlt := Crc.run_lt s.data.toList (c := 4294967295) (by omega)
 have hn : (4294967295 : Int) - (Crc.run 4294967295 s.data.toList : Nat) = (Crc.ofB s : Nat) := by unfold Crc.ofB; omega
 have HN := Lib.hid hn; clear hn
 go_enter Tryz.func80, Tryz.ntmps80
 go_wp2_with (go_at_call 110; refine (run_any 4294967295 (by omega) s hs _).mono ?_; rintro e w1 ⟨rfl, rfl⟩)
 go_ret
 exact ⟨ret_int HN.out, rfl⟩
theorem Tryz.info5 : (Tryz.prog.info? 5).map (fun i => (i.zero, i.size, i.bytes)) = some (some (.int .u8 0), 1, 1) := by kernel_rfl
set_option maxHeartbeats 400000 in
set_option maxRecDepth 100000 in
theorem rTail_any (s : ByteArray) (hs : s.size ≤ maxLen) (w : World) :
 Calls Tryz.prog 37 #[.string s] w fun e w' => e = .returned (.string (Crc.four (Crc.ofB s))) ∧ Below w.heap.size w w' := by
 obtain ⟨i0, hi, hz0, hz1, hz2⟩ := info_parts Tryz.info5
 have hlt := Crc.ofB_lt s
 go_enter Tryz.func37, Tryz.ntmps37
 go_wp2_with (go_at_call 80; refine (rOf_any s hs _).mono ?_; rintro e w1 ⟨rfl, rfl⟩)
 generalize hC : Crc.ofB s = c at *
 have HC := Lib.hid hC; clear hC
 go_loopw [3, 4, 5] (fun v3 v4 v5 wr => ∃ k : Nat, k ≤ 4 ∧ v5 = .int .i64 k ∧ v3 = .int .u32 (c / 256 ^ k : Nat) ∧ wr.ownsRow w.heap.size 5 1 v4 k (((Crc.fourL c).take k).map (Value.int .u8)) ∧ Below w.heap.size w wr) (fun _ _ v5 _ => 4 - (intOf v5).toNat)
 case atStart => exact ⟨0, by omega, rfl, by simp, World.ownsRow_nil _ _ _ _, Below.refl _ _⟩
 case round =>
  obtain ⟨k, hk, rfl, rfl, hown, hb⟩ := hrel
  have hq0 : c / 256 ^ k < 4294967296 := Nat.lt_of_le_of_lt (Nat.div_le_self _ _) hlt
  have hq1 : c / 256 ^ (k + 1) = c / 256 ^ k / 256 := by rw [Nat.pow_succ, Nat.div_div_eq_div_mul]
  have hq2 : k < 4 → (Crc.fourL c).take (k + 1) = (Crc.fourL c).take k ++ [((c / 256 ^ k : Nat) : Int) % 256] := Crc.fourL_take c k hlt
  generalize c / 256 ^ k = q at *
  have HQ1 := Lib.hid hq1; clear hq1
  have HQ2 := Lib.hid hq2; clear hq2
  have hbs := hb.size
  by_cases h4 : k < 4
  · go_wp2_with (at_builtin; go_must (refine wpList_append_own _ rfl _ _ 63 rfl w.heap.size 5 i0 (.int .u8 0) 1 1 Tryz.underlying63 hi hz0 hz1 hz2 rfl (by decide) _ _ _ rfl (hown.alloc _) ⟨wr.heap.size, 0, none⟩ 1 1 [.int .u8 ((q : Int) % 256)] rfl rfl (cell_one_new _ _ _) (by simp [Value.oneCell']) (by unfold maxLen; omega) (by omega) (by simp; omega) ?_); intro v' w1 hown' hgrow _)
    go_roundw
    case rel =>
     refine ⟨k + 1, by omega, by go_num, by rw [HQ1.out]; go_num, ?_, ?_⟩
     · rw [HQ2.out h4, List.map_append]; exact hown'
     · exact (hb.alloc hbs _).grown hgrow (by simp; omega) (fun b hv => (hown.lt b hv).1)
    case measure => simp [intOf]; omega
  · obtain rfl : k = 4 := by omega
    have hconv := fun dst (hd : Tryz.prog.underlying dst = some .string) => own_string (P := Tryz.prog) (src := 63) (dst := dst) _ Tryz.underlying63 Tryz.underlying5 hd hown
    have hc9 := hconv 9 Tryz.underlying9
    clear hconv
    go_wp2
    go_ret
    refine ⟨?_, hb⟩
    rw [HC.out]; rfl
end Go.Proofs.YtliobahnekohmaaGreat
