import Derived.Test.YtfibapfehgglhaaGreatDoorCrcA
import Derived.Test.YtfibapfehgglhaaGreatDoorNumO
/-
  What the functions of package crc come to: On, Of, Tail, Good.
-/
namespace Go.Proofs.YtfibapfehgglhaaGreatDoor
open Go.RowKit

theorem not_u32 (c : Nat) (h : c < 4294967296) : bits BinOp.xor IntKind.u32 IntKind.u32.max (c : Int) = ((4294967295 - c : Nat) : Int) := by
  rw [← Crc.xor_top c h]; exact u32_xor_nat 4294967295 c (by decide) h
theorem and15_u32 (c : Nat) (h : c < 4294967296) : bits BinOp.and IntKind.u32 (c : Int) 15 = ((c % 16 : Nat) : Int) := by
  rw [← nat_mask4]; exact u32_and_nat c 15 h (by decide)

set_option maxRecDepth 100000 in
set_option maxHeartbeats 400000 in
theorem On_any (c : Nat) (hc : c < 4294967296) (s : ByteArray) (hs : s.size ≤ maxLen) (w : World) :
    Calls Tryz.prog 110 #[.int .u32 c, .string s] w fun e w' => e = .returned (.int .u32 (4294967295 - Crc.run (4294967295 - c) s.data.toList : Nat)) ∧ Below w.heap.size w w' := by
  unfold maxLen at hs
  have hn := not_u32 c hc
  have hn2 := not_u32 (Crc.run (4294967295 - c) s.data.toList) (Crc.run_lt _ (by omega))
  have HN2 := Lib.hid hn2; clear hn2
  go_enter Tryz.func110, Tryz.ntmps110
  go_wp2_with (go_at_call 162; refine (halves_any _).mono ?_; rintro e w1 ⟨rfl, hb⟩; have HB := Lib.hid hb; clear hb; rw [Crc.tab, Crc.part_all])
  rw [← Crc.part_all]
  have hc' : 4294967295 - c < 4294967296 := by omega
  clear hn
  generalize hC : 4294967295 - c = c0 at *
  go_loop [0, 12] (fun v i => ∃ k : Nat, k ≤ s.size ∧ i = .int .i64 k ∧ v = .int .u32 (Crc.run c0 (s.data.toList.take k))) (fun _ i => s.size - (intOf i).toNat)
  case atStart => exact ⟨0, Nat.zero_le _, rfl, rfl⟩
  case round =>
    obtain ⟨k, hk, rfl, rfl⟩ := hrel
    have hlt := Crc.run_lt (s.data.toList.take k) hc'
    by_cases h : k < s.size
    · have hT := Crc.run_take2 c0 s k h
      have hb := Crc.u8_lt s[k]
      generalize Crc.run c0 (s.data.toList.take k) = r at *
      have hx : bits BinOp.xor IntKind.u32 (r : Int) (s[k].toNat : Int) = ((r ^^^ s[k].toNat : Nat) : Int) := u32_xor_nat _ _ hlt hb
      have hxl := Crc.xor_lt hlt hb
      generalize r ^^^ s[k].toNat = x at *
      have ha := and15_u32 x hxl
      have hy : bits BinOp.xor IntKind.u32 ((x : Int) / 16) (Crc.steps 4 (x % 16) : Nat) = (Crc.steps 4 x : Nat) := by
        rw [Crc.steps4 x]; exact u32_xor_nat (x / 16) _ (by omega) (Crc.steps_lt 4 (by omega))
      have ht := Crc.tab_get (x % 16) (by omega)
      unfold Crc.tab at ht
      generalize Crc.steps 4 (x % 16) = t1 at *
      have hyl := Crc.steps_lt 4 hxl
      generalize Crc.steps 4 x = y at *
      have ha2 := and15_u32 y hyl
      have hz : bits BinOp.xor IntKind.u32 ((y : Int) / 16) (Crc.steps 4 (y % 16) : Nat) = (Crc.steps 4 y : Nat) := by
        rw [Crc.steps4 y]; exact u32_xor_nat (y / 16) _ (by omega) (Crc.steps_lt 4 (by omega))
      have ht2 := Crc.tab_get (y % 16) (by omega)
      unfold Crc.tab at ht2
      generalize Crc.steps 4 (y % 16) = t2 at *
      generalize Crc.steps 4 y = z at *
      have HT := Lib.hid hT; clear hT
      go_wp2
      go_round
      case rel => exact ⟨k + 1, by omega, by go_num, by rw [HT.out]⟩
      case measure => simp [intOf]; omega
    · have hE : Crc.run c0 (s.data.toList.take k) = Crc.run c0 s.data.toList := by rw [List.take_of_length_le (by simp; omega)]
      rw [hE] at *
      have hn2 := HN2.out
      clear hE
      go_wp2
      go_ret
      exact ⟨rfl, HB.out.alloc (HB.out.size) _⟩
end Go.Proofs.YtfibapfehgglhaaGreatDoor
/-
  What the functions of package crc come to: Of, Tail, Good.
-/
namespace Go.Proofs.YtfibapfehgglhaaGreatDoor
open Go.RowKit
namespace Crc
/-- the check of bytes -/
def ofB (s : ByteArray) : Nat := 4294967295 - run 4294967295 s.data.toList
/-- a number's four bytes, the lowest first -/
def fourL (c : Nat) : List Int := [(c : Int) % 256, (c : Int) / 256 % 256, (c : Int) / 65536 % 256, (c : Int) / 16777216]
def four (c : Nat) : ByteArray := strOfNums (fourL c)
/-- a text without its check, if that is right -/
def good (s : ByteArray) : ByteArray × Bool :=
  if s.size < 4 then (ByteArray.empty, false)
  else if s.extract (s.size - 4) s.size = four (ofB (s.extract 0 (s.size - 4))) then (s.extract 0 (s.size - 4), true) else (ByteArray.empty, false)
theorem ofB_lt (s : ByteArray) : ofB s < 4294967296 := by unfold ofB; omega
end Crc

set_option maxRecDepth 100000 in
set_option maxHeartbeats 400000 in
theorem Of_any (s : ByteArray) (hs : s.size ≤ maxLen) (w : World) :
    Calls Tryz.prog 65 #[.string s] w fun e w' => e = .returned (.int .u32 (Crc.ofB s : Nat)) ∧ Below w.heap.size w w' := by
  go_enter Tryz.func65, Tryz.ntmps65
  go_wp2_with (go_at_call 110; refine (On_any 0 (by omega) s hs _).mono ?_; rintro e w1 ⟨rfl, hb⟩; have HB := Lib.hid hb; clear hb)
  go_ret
  exact ⟨rfl, HB.out⟩

theorem four_back (w : World) (b : Nat) (c : Nat) (hc : w.heap[b]? = some (.cells #[.int .u8 ((c : Int) % 256), .int .u8 ((c : Int) / 256 % 256), .int .u8 ((c : Int) / 65536 % 256), .int .u8 ((c : Int) / 16777216)] 5 (0, 0))) :
    (convert 92 9 (.slice (some ⟨b, 0, none⟩) 4 4)).run Tryz.prog w = .ok (.string (Crc.four c)) w :=
  run_convert_bytes_arg (P := Tryz.prog) w 92 5 Tryz.underlying92 Tryz.underlying5 b 0 4 4 (Crc.fourL c) rfl (fun i hi => by
    rw [Nat.zero_add, cell_of_row w b i _ _ _ hc]
    match i, hi with
    | 0, _ => rfl
    | 1, _ => rfl
    | 2, _ => rfl
    | 3, _ => rfl) 9 Tryz.underlying9

set_option maxRecDepth 100000 in
set_option maxHeartbeats 400000 in
theorem Tail_any (s : ByteArray) (hs : s.size ≤ maxLen) (w : World) :
    Calls Tryz.prog 31 #[.string s] w fun e w' => e = .returned (.string (Crc.four (Crc.ofB s))) ∧ Below w.heap.size w w' := by
  go_enter Tryz.func31, Tryz.ntmps31
  have hlt := Crc.ofB_lt s
  go_wp2_with (go_at_call 65; refine (Of_any s hs _).mono ?_; rintro e w1 ⟨rfl, hb⟩; have HB := Lib.hid hb; clear hb; generalize hC : Crc.ofB s = c at *; have HC := Lib.hid hC; clear hC)
  rw [four_back _ _ c (heap_alloc_new w1 _)]
  go_wp2
  go_ret
  exact ⟨by rw [HC.out]; rfl, HB.out.alloc HB.out.size _⟩

set_option maxRecDepth 100000 in
set_option maxHeartbeats 400000 in
theorem Good_any (s : ByteArray) (hs : s.size ≤ maxLen) (w : World) :
    Calls Tryz.prog 30 #[.string s] w fun e w' => e = .returned (.tuple #[.string (Crc.good s).1, .bool (Crc.good s).2]) ∧ Below w.heap.size w w' := by
  by_cases hlt : s.size < 4
  · have hg : Crc.good s = (ByteArray.empty, false) := by unfold Crc.good; rw [if_pos hlt]
    rw [hg]
    have hd : decide ((s.size : Int) - 4 < 0) = true := by simp; omega
    clear hg
    go_enter Tryz.func30, Tryz.ntmps30
    go_wp2
    go_quiet (fail)
    go_wp2
    go_ret2
    exact ⟨rfl, below_drewN (Below.refl _ _) _⟩
  · obtain ⟨n, hn⟩ : ∃ n : Nat, s.size - 4 = n := ⟨_, rfl⟩
    have hg : Crc.good s = if s.extract n s.size = Crc.four (Crc.ofB (s.extract 0 n)) then (s.extract 0 n, true) else (ByteArray.empty, false) := by
      unfold Crc.good; rw [if_neg hlt, hn]
    have hb := str_beq (s.extract n s.size) (Crc.four (Crc.ofB (s.extract 0 n)))
    have h0 : (s.size : Int) - 4 = n := by omega
    have h1 : (0 : Int) ≤ (n : Int) := by omega
    have h2 : (n : Int) ≤ s.size := by omega
    have hd : decide ((n : Int) < 0) = false := by simp
    unfold maxLen at hs
    clear hn
    have HB := Lib.hid hb; clear hb
    have HG := Lib.hid hg; clear hg
    go_enter Tryz.func30, Tryz.ntmps30
    go_wp2
    go_region_held3 (fun w' => Below w.heap.size w w') (first | exact Below.refl _ _ | exact Below.drew (Below.refl _ _) | assumption | exact Below.drew ‹_›)
      (first | (go_at_call 31; refine (Tail_any _ (by unfold maxLen; simp; omega) _).mono ?_; rintro e w1 ⟨rfl, hb⟩; replace hb := below_step (by assumption) hb))
    go_wp2
    · have ht : (!((s.extract n s.size).toList == (Crc.four (Crc.ofB (s.extract 0 n))).toList)) = true := by assumption
      go_ret2
      rw [HB.out] at ht
      rw [HG.out, if_neg (by simpa using ht)]
      exact ⟨rfl, hb⟩
    · have ht : (!((s.extract n s.size).toList == (Crc.four (Crc.ofB (s.extract 0 n))).toList)) = false := by assumption
      go_ret2
      rw [HB.out] at ht
      rw [HG.out, if_pos (by simpa using ht)]
      exact ⟨rfl, hb⟩
end Go.Proofs.YtfibapfehgglhaaGreatDoor
/-
  The plain mathematics of CRC-32C, more: four bytes at once; it is linear; it tells neighbours that are others.
-/
namespace Go.Proofs.YtfibapfehgglhaaGreatDoor
namespace Crc

theorem data_append (a b : ByteArray) : (a ++ b).data.toList = a.data.toList ++ b.data.toList := by
  rw [ByteArray.data_append, Array.toList_append]
theorem join256 (q r : Nat) (h : r < 256) : (256 * q) ^^^ r = 256 * q + r := by
  apply Nat.eq_of_testBit_eq
  intro i
  rw [Nat.testBit_xor]
  have e : 256 * q + r = 2 ^ 8 * q + r := rfl
  rw [e, Nat.testBit_two_pow_mul_add _ h, show 256 * q = 2 ^ 8 * q from rfl, Nat.testBit_two_pow_mul]
  by_cases hi : i < 8
  · simp [hi, Nat.not_le.2 hi]
  · have : r.testBit i = false := Nat.testBit_lt_two_pow (Nat.lt_of_lt_of_le h (Nat.pow_le_pow_right (by decide) (Nat.not_lt.1 hi) : 2 ^ 8 ≤ 2 ^ i))
    simp [hi, this, Nat.not_lt.1 hi]
theorem steps8_256 (q : Nat) : steps 8 (256 * q) = q := by
  have h1 : 256 * q = 16 * (16 * q) := by omega
  rw [h1, show (8 : Nat) = 4 + 4 from rfl, steps_add, steps4_sixteen, steps4_sixteen]
/-- one byte of a number, and what is left of it -/
theorem byte_join (c v : Nat) : byte c (v % 256) ^^^ (v / 256) = steps 8 (c ^^^ v) := by
  have h : v = (256 * (v / 256)) ^^^ (v % 256) := by rw [join256 _ _ (by omega)]; omega
  conv => rhs; rw [h, Nat.xor_comm (256 * (v / 256)), ← Nat.xor_assoc]
  rw [steps_xor, steps8_256]; rfl
def fourU (v : Nat) : List UInt8 := [UInt8.ofNat (v % 256), UInt8.ofNat (v / 256 % 256), UInt8.ofNat (v / 65536 % 256), UInt8.ofNat (v / 16777216)]
theorem four_list (v : Nat) : (four v).data.toList = fourU v := by
  unfold four fourU fourL
  rw [strOfNums_data]
  simp only [List.map_cons, List.map_nil]
  congr 1
theorem four_size (v : Nat) : (four v).size = 4 := by
  unfold four; rw [strOfNums_size]; rfl
theorem run_four (c v : Nat) (hv : v < 4294967296) : run c (fourU v) = steps 32 (c ^^^ v) := by
  unfold run fourU
  simp only [List.foldl_cons, List.foldl_nil, UInt8.toNat_ofNat']
  have e0 : v % 256 % 2 ^ 8 = v % 256 := by omega
  have e1 : v / 256 % 256 % 2 ^ 8 = v / 256 % 256 := by omega
  have e2 : v / 65536 % 256 % 2 ^ 8 = v / 256 / 256 % 256 := by omega
  have e3 : v / 16777216 % 2 ^ 8 = v / 256 / 256 / 256 % 256 := by omega
  rw [e0, e1, e2, e3]
  have h0 := byte_join c v
  generalize byte c (v % 256) = c1 at *
  have h1 := byte_join c1 (v / 256)
  generalize byte c1 (v / 256 % 256) = c2 at *
  have h2 := byte_join c2 (v / 256 / 256)
  generalize byte c2 (v / 256 / 256 % 256) = c3 at *
  have h3 := byte_join c3 (v / 256 / 256 / 256)
  have hz : v / 256 / 256 / 256 / 256 = 0 := by omega
  rw [hz, Nat.xor_zero, h2, h1, h0] at h3
  rw [h3, ← steps_add, ← steps_add, ← steps_add]

/-- the end of bytes with their check behind them -/
theorem ofB_end (a : ByteArray) : ofB (a ++ four (ofB a)) = 4294967295 - steps 32 4294967295 := by
  have hs := run_lt a.data.toList (c := 4294967295) (by omega)
  have h : run 4294967295 (a ++ four (ofB a)).data.toList = steps 32 4294967295 := by
    rw [data_append, run_append, four_list, run_four _ _ (ofB_lt a)]
    unfold ofB
    rw [← xor_top _ hs, Nat.xor_comm 4294967295, ← Nat.xor_assoc, Nat.xor_self, Nat.zero_xor]
  unfold ofB at *
  rw [h]

theorem extract_data' (s : ByteArray) (a b : Nat) : (s.extract a b).data.toList = (s.data.toList.drop a).take (b - a) := by
  simp [ByteArray.data_extract, Array.toList_extract]
theorem ba_ext {a b : ByteArray} (h : a.data.toList = b.data.toList) : a = b := ByteArray.ext (Array.toList_inj.1 h)
theorem size_list (a : ByteArray) : a.data.toList.length = a.size := by simp
theorem extract_left (a b : ByteArray) : (a ++ b).extract 0 a.size = a := by
  apply ba_ext
  rw [extract_data', data_append]
  simp
theorem extract_right (a b : ByteArray) : (a ++ b).extract a.size (a ++ b).size = b := by
  apply ba_ext
  rw [extract_data', data_append, List.drop_append_of_le_length (by simp), List.take_of_length_le (by simp [ByteArray.size_append])]
  simp
theorem good_append (a t : ByteArray) (ht : t.size = 4) : good (a ++ t) = if t = four (ofB a) then (a, true) else (ByteArray.empty, false) := by
  unfold good
  have hs : (a ++ t).size = a.size + 4 := by rw [ByteArray.size_append, ht]
  rw [if_neg (by omega)]
  have hn : (a ++ t).size - 4 = a.size := by omega
  rw [hn, extract_right, extract_left]
theorem good_size (s : ByteArray) (h : (good s).2 = true) : (good s).1.size + 4 = s.size := by
  unfold good at *
  split at h
  · simp at h
  · rename_i hn
    split at h
    · rename_i he
      rw [if_neg hn, if_pos he]
      simp [ByteArray.size_extract]
      omega
    · simp at h
/-! neighbours that are others are told -/
theorem step_inj {a b : Nat} (ha : a < 4294967296) (hb : b < 4294967296) (h : step a = step b) : a = b := by
  have hp : ∀ c : Nat, c < 4294967296 → c / 2 < 2 ^ 31 := fun c hc => by omega
  have hbit : ∀ c : Nat, c < 4294967296 → (step c).testBit 31 = decide (c % 2 = 1) := fun c hc => by
    have h0 : (c / 2).testBit 31 = false := Nat.testBit_lt_two_pow (hp c hc)
    unfold step
    split
    · rename_i ho
      rw [Nat.testBit_xor, h0, ho]
      decide
    · rename_i ho
      rw [h0]; simp [ho]
  have hpar : decide (a % 2 = 1) = decide (b % 2 = 1) := by rw [← hbit a ha, ← hbit b hb, h]
  have hpar' : a % 2 = 1 ↔ b % 2 = 1 := by simpa using hpar
  unfold step at h
  by_cases ho : a % 2 = 1
  · rw [if_pos ho, if_pos (hpar'.1 ho)] at h
    have h2 : a / 2 = b / 2 := by
      have := congrArg (fun x => x ^^^ poly) h
      simpa [Nat.xor_assoc] using this
    have := hpar'.1 ho
    omega
  · have ho2 : ¬ b % 2 = 1 := fun e => ho (hpar'.2 e)
    rw [if_neg ho, if_neg ho2] at h
    omega
theorem steps_inj (n : Nat) : ∀ {a b : Nat}, a < 4294967296 → b < 4294967296 → steps n a = steps n b → a = b := by
  induction n with
  | zero => exact fun _ _ h => h
  | succ n ih => exact fun ha hb h => step_inj ha hb (ih (step_lt ha) (step_lt hb) h)
theorem xor_cancel {a b c : Nat} (h : a ^^^ c = b ^^^ c) : a = b := by
  have := congrArg (fun x => x ^^^ c) h
  simpa [Nat.xor_assoc] using this
theorem run_inj (l : List UInt8) : ∀ {a b : Nat}, a < 4294967296 → b < 4294967296 → run a l = run b l → a = b := by
  induction l with
  | nil => exact fun _ _ h => h
  | cons x l ih =>
    intro a b ha hb h
    have h1 : byte a x.toNat = byte b x.toNat := ih (byte_lt ha (u8_lt x)) (byte_lt hb (u8_lt x)) h
    exact xor_cancel (steps_inj 8 (xor_lt ha (u8_lt x)) (xor_lt hb (u8_lt x)) h1)
def le4 (l : List UInt8) : Nat := (l.getD 0 0).toNat + 256 * (l.getD 1 0).toNat + 65536 * (l.getD 2 0).toNat + 16777216 * (l.getD 3 0).toNat
theorem le4_lt (l : List UInt8) : le4 l < 4294967296 := by
  unfold le4
  have h0 := (l.getD 0 0).toNat_lt; have h1 := (l.getD 1 0).toNat_lt; have h2 := (l.getD 2 0).toNat_lt; have h3 := (l.getD 3 0).toNat_lt
  omega
theorem fourU_le4 (l : List UInt8) (h : l.length = 4) : fourU (le4 l) = l := by
  match l, h with
  | [a, b, c, d], _ =>
    have h0 := a.toNat_lt; have h1 := b.toNat_lt; have h2 := c.toNat_lt; have h3 := d.toNat_lt
    have e : le4 [a, b, c, d] = a.toNat + 256 * b.toNat + 65536 * c.toNat + 16777216 * d.toNat := rfl
    unfold fourU
    rw [e]
    have e0 : (a.toNat + 256 * b.toNat + 65536 * c.toNat + 16777216 * d.toNat) % 256 = a.toNat := by omega
    have e1 : (a.toNat + 256 * b.toNat + 65536 * c.toNat + 16777216 * d.toNat) / 256 % 256 = b.toNat := by omega
    have e2 : (a.toNat + 256 * b.toNat + 65536 * c.toNat + 16777216 * d.toNat) / 65536 % 256 = c.toNat := by omega
    have e3 : (a.toNat + 256 * b.toNat + 65536 * c.toNat + 16777216 * d.toNat) / 16777216 = d.toNat := by omega
    rw [e0, e1, e2, e3]
    simp
theorem burst (a x y b : List UInt8) (hx : x.length = 4) (hy : y.length = 4) (hne : x ≠ y) : run 4294967295 (a ++ x ++ b) ≠ run 4294967295 (a ++ y ++ b) := by
  intro h
  rw [run_append, run_append, run_append, run_append] at h
  have hc := run_lt a (c := 4294967295) (by omega)
  generalize run 4294967295 a = c at *
  have h1 := run_inj b (run_lt x hc) (run_lt y hc) h
  rw [← fourU_le4 x hx, ← fourU_le4 y hy, run_four _ _ (le4_lt x), run_four _ _ (le4_lt y)] at h1
  have h2 := steps_inj 32 (xor_lt hc (le4_lt x)) (xor_lt hc (le4_lt y)) h1
  rw [Nat.xor_comm c, Nat.xor_comm c] at h2
  have h3 := xor_cancel h2
  apply hne
  rw [← fourU_le4 x hx, ← fourU_le4 y hy, h3]
theorem four_inj {a b : Nat} (ha : a < 4294967296) (hb : b < 4294967296) (h : four a = four b) : a = b := by
  have h1 : fourU a = fourU b := by rw [← four_list, ← four_list, h]
  have h2 := run_four 0 a ha
  rw [h1, run_four 0 b hb, Nat.zero_xor, Nat.zero_xor] at h2
  exact (steps_inj 32 hb ha h2).symm
theorem ofB_burst (a b : ByteArray) (x y : List UInt8) (hx : x.length = 4) (hy : y.length = 4) (hne : x ≠ y) : ofB (a ++ ⟨x.toArray⟩ ++ b) ≠ ofB (a ++ ⟨y.toArray⟩ ++ b) := by
  intro h
  unfold ofB at h
  rw [data_append, data_append, data_append, data_append, show (ByteArray.mk x.toArray).data.toList = x from rfl, show (ByteArray.mk y.toArray).data.toList = y from rfl] at h
  have h1 := run_lt (a.data.toList ++ x ++ b.data.toList) (c := 4294967295) (by omega)
  have h2 := run_lt (a.data.toList ++ y ++ b.data.toList) (c := 4294967295) (by omega)
  exact burst a.data.toList x y b.data.toList hx hy hne (by omega)

/-! it is linear -/
theorem byte_xor (a b x y : Nat) : byte (a ^^^ b) (x ^^^ y) = byte a x ^^^ byte b y := by
  unfold byte
  rw [← steps_xor]
  congr 1
  rw [Nat.xor_assoc, Nat.xor_assoc, ← Nat.xor_assoc b, Nat.xor_comm b x, Nat.xor_assoc x]
theorem run_xor : ∀ (l m : List UInt8) (a b : Nat), l.length = m.length → run (a ^^^ b) (List.zipWith (· ^^^ ·) l m) = run a l ^^^ run b m
  | [], [], a, b, _ => rfl
  | x :: l, y :: m, a, b, h => by
    have ih := run_xor l m (byte a x.toNat) (byte b y.toNat) (by simpa using h)
    show run (byte (a ^^^ b) (x ^^^ y).toNat) (List.zipWith (· ^^^ ·) l m) = _
    rw [UInt8.toNat_xor, byte_xor]
    exact ih
end Crc
end Go.Proofs.YtfibapfehgglhaaGreatDoor
/-
  Frames: the mathematics.
-/
namespace Go.Proofs.YtfibapfehgglhaaGreatDoor
open Go.RowKit
namespace Fr

/-- a text with its length ahead -/
def txt (b : ByteArray) : ByteArray := Num.smallB b.size ++ b
/-- bytes in a frame -/
def put (b : ByteArray) : ByteArray := txt b ++ Crc.four (Crc.ofB (txt b))
/-- may a number go on? -/
def mayGo (s : ByteArray) : Bool := s.data.toList.all (fun b => decide (128 ≤ b.toNat)) && decide (s.size < 10)
/-- the number ahead: what it is, its bytes, whether it is one -/
def num (s : ByteArray) : Nat × Nat × Bool := Num.decp 0 0 s.data.toList
/-- what s begins with -/
def get (s : ByteArray) (most : Int) : ByteArray × ByteArray × Nat :=
  if mayGo s = true then (ByteArray.empty, s, 1)
  else if (num s).2.2 = false ∨ most < 0 ∨ most < ((num s).1 : Int) then (ByteArray.empty, s, 2)
  else if s.size < (num s).2.1 + (num s).1 + 4 then (ByteArray.empty, s, 1)
  else if s.extract ((num s).2.1 + (num s).1) ((num s).2.1 + (num s).1 + 4) = Crc.four (Crc.ofB (s.extract 0 ((num s).2.1 + (num s).1))) then
    (s.extract (num s).2.1 ((num s).2.1 + (num s).1), s.extract ((num s).2.1 + (num s).1 + 4) s.size, 0)
  else (ByteArray.empty, s, 2)

theorem txt_size (b : ByteArray) : (txt b).size = (Num.smallB b.size).size + b.size := by unfold txt; rw [ByteArray.size_append]
theorem small_le (n : Nat) : (Num.smallB n).size ≤ 10 := Num.enc_length_le 9 _
theorem put_size (b : ByteArray) : (put b).size = (Num.smallB b.size).size + b.size + 4 := by unfold put; rw [ByteArray.size_append, txt_size, Crc.four_size]
theorem put_pos (b : ByteArray) : 5 ≤ (put b).size := by rw [put_size]; have := Num.small_pos b.size; omega
theorem small_one (n : Nat) (h : n ≤ 127) : (Num.smallB n).size = 1 := by
  have h1 := Num.small_pos n
  have h2 : (Num.smallB n).size ≤ 1 := Num.enc_short 9 1 n (by omega) (by omega)
  omega
theorem small_two (n : Nat) (h : 127 < n) (h2 : n < 16384) : (Num.smallB n).size = 2 := by
  have h1 : (Num.smallB n).size ≤ 2 := Num.enc_short 9 2 n (by omega) (by omega)
  have h3 : 2 ≤ (Num.smallB n).size := by
    show 2 ≤ (Num.enc 9 n).length
    rw [Num.enc, if_pos (by omega)]
    have := Num.enc_length_pos 8 (n / 128)
    simp only [List.length_cons]; omega
  omega

theorem num_le_size (s : ByteArray) : (num s).2.1 ≤ s.size := by
  have := Num.decp_snd s.data.toList 0 0
  unfold num
  simpa using this
theorem num_lt (s : ByteArray) : (num s).1 < 18446744073709551616 := Num.decp_lt s.data.toList 0 0 (by decide) (by decide)
/-- a number ends with a byte below 128: so a beginning of one goes on -/
theorem decp_ok_low : ∀ (l : List UInt8) (i v : Nat), (Num.decp i v l).2.2 = true → l.all (fun b => decide (128 ≤ b.toNat)) = false
  | [], i, v, h => by simp [Num.decp] at h
  | b :: r, i, v, h => by
    rw [Num.decp] at h
    split at h
    · cases h
    · split at h
      · next hb => simp; intro hc; omega
      · have := decp_ok_low r _ _ h
        simp only [List.all_cons, this, Bool.and_false]
theorem num_ok_stop (s : ByteArray) (h : (num s).2.2 = true) : mayGo s = false := by
  unfold mayGo
  rw [decp_ok_low _ _ _ h, Bool.false_and]
theorem decp_ok_pos : ∀ (l : List UInt8) (i v : Nat), (Num.decp i v l).2.2 = true → i < (Num.decp i v l).2.1
  | [], i, v, h => by simp [Num.decp] at h
  | b :: r, i, v, h => by
    rw [Num.decp] at h ⊢
    split at h
    · cases h
    · next h1 =>
      rw [if_neg h1]
      split at h
      · next hb => rw [if_pos hb]; exact Nat.lt_succ_self _
      · next hb =>
        rw [if_neg hb]
        have := decp_ok_pos r _ _ h
        omega
theorem num_ok_pos (s : ByteArray) (h : (num s).2.2 = true) : 1 ≤ (num s).2.1 := decp_ok_pos _ _ _ h

theorem ext_left (a b : ByteArray) (k : Nat) (h : k ≤ a.size) : (a ++ b).extract 0 k = a.extract 0 k := by
  apply Crc.ba_ext
  rw [Crc.extract_data', Crc.extract_data', Crc.data_append]
  have := Crc.size_list a
  simp only [List.drop_zero, Nat.sub_zero]
  rw [List.take_append_of_le_length (by omega)]
theorem ext_mid (a b c : ByteArray) : (a ++ b ++ c).extract a.size (a.size + b.size) = b := by
  apply Crc.ba_ext
  rw [Crc.extract_data', Crc.data_append, Crc.data_append]
  have h1 := Crc.size_list a
  have h2 := Crc.size_list b
  rw [List.append_assoc, List.drop_left' h1, List.take_left' (by omega)]
theorem ext_whole (a : ByteArray) : a.extract 0 a.size = a := by
  apply Crc.ba_ext
  rw [Crc.extract_data']
  have h1 := Crc.size_list a
  simp only [List.drop_zero, Nat.sub_zero]
  rw [List.take_of_length_le (by omega)]
theorem ext_ext (s : ByteArray) (a b c : Nat) (h : c ≤ b - a) : (s.extract a b).extract 0 c = s.extract a (a + c) := by
  apply Crc.ba_ext
  rw [Crc.extract_data', Crc.extract_data', Crc.extract_data']
  simp only [List.drop_zero, Nat.sub_zero]
  rw [List.take_take]; congr 1; omega
theorem ext_drop (s : ByteArray) (a c : Nat) : (s.extract a s.size).extract c (s.extract a s.size).size = s.extract (a + c) s.size := by
  apply Crc.ba_ext
  rw [Crc.extract_data', Crc.extract_data', Crc.extract_data']
  have h1 := Crc.size_list s
  rw [ByteArray.size_extract, List.drop_take, List.drop_drop, List.take_take]
  congr 1; omega
theorem join (s : ByteArray) (a b : Nat) (h : a ≤ b) (_hb : b ≤ s.size) : s.extract 0 a ++ s.extract a b = s.extract 0 b := by
  apply Crc.ba_ext
  rw [Crc.data_append, Crc.extract_data', Crc.extract_data', Crc.extract_data']
  simp only [List.drop_zero, Nat.sub_zero]
  have e : b = a + (b - a) := by omega
  conv => rhs; rw [e, List.take_add]

theorem num_put (b r : ByteArray) (hb : b.size < 18446744073709551616) : num (put b ++ r) = (b.size, (Num.smallB b.size).size, true) := by
  unfold num put txt
  rw [ByteArray.append_assoc, ByteArray.append_assoc]
  exact Num.decp_small b.size hb _

/-- what is put is got, whatever stands behind it -/
theorem get_put (b r : ByteArray) (most : Int) (hm : (b.size : Int) ≤ most) (hb : b.size < 18446744073709551616) : get (put b ++ r) most = (b, r, 0) := by
  have hn := num_put b r hb
  have hg : mayGo (put b ++ r) = false := num_ok_stop _ (by rw [hn])
  have hz : (put b ++ r).size = (Num.smallB b.size).size + b.size + 4 + r.size := by rw [ByteArray.size_append, put_size]
  have e1 : (put b ++ r).extract 0 ((Num.smallB b.size).size + b.size) = txt b := by
    rw [ext_left _ _ _ (by rw [put_size]; omega)]
    unfold put
    rw [ext_left _ _ _ (by rw [txt_size]; omega), ← txt_size, ext_whole]
  have e2 : (put b ++ r).extract ((Num.smallB b.size).size + b.size) ((Num.smallB b.size).size + b.size + 4) = Crc.four (Crc.ofB (txt b)) := by
    have := ext_mid (txt b) (Crc.four (Crc.ofB (txt b))) r
    rw [Crc.four_size, txt_size] at this
    exact this
  have e3 : (put b ++ r).extract (Num.smallB b.size).size ((Num.smallB b.size).size + b.size) = b := by
    unfold put txt
    rw [ByteArray.append_assoc]
    exact ext_mid _ b _
  have e4 : (put b ++ r).extract ((Num.smallB b.size).size + b.size + 4) (put b ++ r).size = r := by
    have := Num.drop_app (put b) r
    rw [put_size] at this
    exact this
  unfold get
  rw [hg, hn]
  simp only [Bool.false_eq_true, if_false]
  rw [if_neg (by rintro (h | h | h) <;> first | cases h | omega), if_neg (by omega), e1, e2, if_pos rfl, e3, e4]
theorem get_long (b r : ByteArray) (most : Int) (hm : most < (b.size : Int)) (hb : b.size < 18446744073709551616) : get (put b ++ r) most = (ByteArray.empty, put b ++ r, 2) := by
  have hn := num_put b r hb
  have hg : mayGo (put b ++ r) = false := num_ok_stop _ (by rw [hn])
  unfold get
  rw [hg, hn]
  simp only [Bool.false_eq_true, if_false]
  rw [if_pos (.inr (.inr hm))]

/-- what is whole is what was put -/
theorem get_whole (s : ByteArray) (most : Int) (h : (get s most).2.2 = 0) : put (get s most).1 ++ (get s most).2.1 = s ∧ ((get s most).1.size : Int) ≤ most := by
  unfold get at h ⊢
  split at h
  · simp at h
  · next h1 =>
    rw [if_neg h1]
    split at h
    · simp at h
    · next h2 =>
      rw [if_neg h2]
      split at h
      · simp at h
      · next h3 =>
        rw [if_neg h3]
        split at h
        · next h4 =>
          rw [if_pos h4]
          have hok : (num s).2.2 = true := by
            cases hx : (num s).2.2 with
            | true => rfl
            | false => exact absurd (.inl hx) h2
          have hsb : Num.smallB (num s).1 = s.extract 0 (num s).2.1 ∧ (num s).1 < 18446744073709551616 := Num.small_back s hok
          have hz : (s.extract (num s).2.1 ((num s).2.1 + (num s).1)).size = (num s).1 := by rw [ByteArray.size_extract]; omega
          have ht : txt (s.extract (num s).2.1 ((num s).2.1 + (num s).1)) = s.extract 0 ((num s).2.1 + (num s).1) := by
            unfold txt
            rw [hz, hsb.1, join _ _ _ (by omega) (by omega)]
          refine ⟨?_, ?_⟩
          · show put (s.extract (num s).2.1 ((num s).2.1 + (num s).1)) ++ s.extract ((num s).2.1 + (num s).1 + 4) s.size = s
            unfold put
            rw [ht, ← h4, join _ _ _ (by omega) (by omega)]
            exact Num.split_at s _
          · show ((s.extract (num s).2.1 ((num s).2.1 + (num s).1)).size : Int) ≤ most
            rw [hz]
            have h5 : ¬ most < ((num s).1 : Int) := fun e => h2 (.inr (.inr e))
            omega
        · simp at h
theorem get_not (s : ByteArray) (most : Int) (h : (get s most).2.2 ≠ 0) : (get s most).1 = ByteArray.empty ∧ (get s most).2.1 = s := by
  unfold get at h ⊢
  split
  · exact ⟨rfl, rfl⟩
  · next h1 =>
    rw [if_neg h1] at h
    split
    · exact ⟨rfl, rfl⟩
    · next h2 =>
      rw [if_neg h2] at h
      split
      · exact ⟨rfl, rfl⟩
      · next h3 =>
        rw [if_neg h3] at h
        split
        · next h4 => rw [if_pos h4] at h; exact absurd rfl h
        · exact ⟨rfl, rfl⟩
theorem get_shape (s : ByteArray) (most : Int) : (get s most).2.2 ≤ 2 := by
  unfold get
  split
  · simp
  · split
    · simp
    · split
      · simp
      · split <;> simp
theorem get_less (s : ByteArray) (most : Int) (h : (get s most).2.2 = 0) : (get s most).2.1.size + 5 ≤ s.size := by
  have h1 := (get_whole s most h).1
  have h2 := congrArg ByteArray.size h1
  rw [ByteArray.size_append] at h2
  have := put_pos (get s most).1
  omega
end Fr
end Go.Proofs.YtfibapfehgglhaaGreatDoor
