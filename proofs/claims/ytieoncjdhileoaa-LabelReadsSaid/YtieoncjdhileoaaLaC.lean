/-
  What the functions of package label come to: Limit, Longest, Key, Less, Get.
-/
import Derived.Test.YtieoncjdhileoaaLaB
import Derived.Test.YtieoncjdhileoaaBld
import Derived.Test.YtieoncjdhileoaaNumC
namespace Go.Proofs.Ytieoncjdhileoaa
open Go.RowKit
namespace La
def limit (g : Int) : Nat := if g = 1 then 12 else if g = 2 then 24 else if g = 3 then 48 else 0
/-- the longest name or value -/
def longest (f : Nat → Lab) : Nat → Nat
  | 0 => 0
  | k + 1 => max (longest f k) (max (f k).1.size (f k).2.size)
/-- a text with its length ahead -/
def txt (b : ByteArray) : List UInt8 := (Num.smallB b.size ++ b).data.toList
/-- labels as bytes -/
def key (f : Nat → Lab) : Nat → List UInt8
  | 0 => []
  | k + 1 => key f k ++ txt (f k).1 ++ txt (f k).2
def keyB (f : Nat → Lab) (n : Nat) : ByteArray := ⟨(key f n).toArray⟩
theorem txt_length (b : ByteArray) (h : b.size ≤ 300) : (txt b).length ≤ 310 := by
  have h1 : (Num.smallB b.size).size ≤ 10 := Num.enc_length_le 9 _
  have h2 : (txt b).length = (Num.smallB b.size ++ b).size := by simp [txt]
  rw [h2, ByteArray.size_append]; omega
theorem key_length (f : Nat → Lab) : ∀ k, (∀ i, i < k → (f i).1.size ≤ 300 ∧ (f i).2.size ≤ 300) → (key f k).length ≤ k * 620
  | 0, _ => by simp [key]
  | k + 1, h => by
    have h1 := key_length f k (fun i hi => h i (by omega))
    have h2 := txt_length (f k).1 (h k (by omega)).1
    have h3 := txt_length (f k).2 (h k (by omega)).2
    simp only [key, List.length_append]; omega
/-- the value of the first one of a name -/
def get (f : Nat → Lab) (name : ByteArray) : Nat → Nat → ByteArray
  | 0, _ => ByteArray.empty
  | m + 1, i => if (f i).1 = name then (f i).2 else get f name m (i + 1)
end La

set_option maxHeartbeats 400000 in
theorem Limit_any (g : Int) (w : World) :
    Calls Try.prog 15 #[.int .i64 g] w fun e w' => e = .returned (.int .i64 ((La.limit g : Nat) : Int)) ∧ w = w' := by
  have hc : g < 1 ∨ 3 < g ∨ g = 1 ∨ g = 2 ∨ g = 3 := by omega
  rcases hc with h | h | rfl | rfl | rfl
  · have hl : La.limit g = 0 := by unfold La.limit; rw [if_neg (by omega), if_neg (by omega), if_neg (by omega)]
    rw [hl]
    have d1 : decide (g < 1) = true := by simpa using h
    clear hl h
    go_enter Try.func15, Try.ntmps15
    go_wp2_with fail
    go_ret
    exact ⟨rfl, rfl⟩
  · have hl : La.limit g = 0 := by unfold La.limit; rw [if_neg (by omega), if_neg (by omega), if_neg (by omega)]
    rw [hl]
    have d1 : decide (g < 1) = false := by simp; omega
    have d2 : decide (3 < g) = true := by simpa using h
    clear hl h
    go_enter Try.func15, Try.ntmps15
    go_wp2_with fail
    go_ret
    exact ⟨rfl, rfl⟩
  all_goals
    go_enter Try.func15, Try.ntmps15
    go_wp2_with fail
    go_ret
    exact ⟨rfl, rfl⟩

set_option maxRecDepth 100000 in
set_option maxHeartbeats 1000000 in
theorem Longest_any (A : Option Addr) (n c : Nat) (hn : n ≤ maxLen) (f : Nat → Lab) (hs : ∀ i, i < n → (f i).1.size ≤ maxLen ∧ (f i).2.size ≤ maxLen) (w : World) (hA : LabRow w A n f) :
    Calls Try.prog 17 #[.slice A n c] w fun e w' => e = .returned (.int .i64 ((La.longest f n : Nat) : Int)) ∧ Below w.heap.size w w' := by
  unfold maxLen at hn
  have HA := Lib.hid hA; have HSZ := Lib.hid hs; clear hA hs
  go_enter Try.func17, Try.ntmps17
  go_wp2_with fail
  go_loopw [3, 8] (fun v i wr => ∃ k : Nat, k ≤ n ∧ i = .int .i64 k ∧ v = .int .i64 (La.longest f k : Nat) ∧ Below w.heap.size w wr) (fun _ i _ => n - (intOf i).toNat)
  case atStart => exact ⟨0, by omega, rfl, rfl, Below.refl _ _⟩
  case round =>
    obtain ⟨k, hk, rfl, rfl, hb⟩ := hrel
    have HB := Lib.hid hb; clear hb
    by_cases hlt : k < n
    · obtain ⟨ad, rfl, c0, c1⟩ := HA.out.at_ HB.out hlt
      have hsz := HSZ.out k hlt
      have hlo : La.longest f (k + 1) = max (La.longest f k) (max (f k).1.size (f k).2.size) := rfl
      have HLO := Lib.hid hlo; clear hlo
      generalize (f k).1 = x at *
      generalize (f k).2 = y at *
      generalize La.longest f k = m at *
      have HBA := Lib.hid (HB.out.alloc HB.out.size (.cells #[.string x, .string y] 38))
      go_wp2_with fail
      all_goals
        go_roundw
        case rel => exact ⟨k + 1, by omega, by go_num, by congr 1; rw [HLO.out]; omega, HBA.out⟩
        case measure => simp [intOf]; omega
    · obtain rfl : k = n := by omega
      go_wp2_with fail
      go_ret
      exact ⟨rfl, HB.out⟩

set_option maxRecDepth 100000 in
set_option maxHeartbeats 1000000 in
theorem Key_any (A : Option Addr) (n c : Nat) (hn : n ≤ 1000) (f : Nat → Lab) (hs : ∀ i, i < n → (f i).1.size ≤ 300 ∧ (f i).2.size ≤ 300) (w : World) (hA : LabRow w A n f) :
    Calls Try.prog 19 #[.slice A n c] w fun e w' => e = .returned (.string (La.keyB f n)) ∧ Below w.heap.size w w' := by
  have HA := Lib.hid hA; have HSZ := Lib.hid hs; clear hA hs
  have hnew := BldAt.new w
  have hb0 : Below w.heap.size w (w.alloc (.cells #[.pointer none, .slice none 0 0] 49)) := (Below.refl _ _).alloc (Nat.le_refl _) _
  have HNEW := Lib.hid hnew; have HB0 := Lib.hid hb0; clear hnew hb0
  go_enter Try.func19, Try.ntmps19
  go_wp2_with fail
  go_loopw [8] (fun i wr => ∃ k : Nat, k ≤ n ∧ i = .int .i64 k ∧ BldAt wr w.heap.size w.heap.size (La.key f k) ∧ Below w.heap.size w wr) (fun i _ => n - (intOf i).toNat)
  case atStart => exact ⟨0, by omega, rfl, HNEW.out, HB0.out⟩
  case round =>
    obtain ⟨k, hk, rfl, hbl, hb⟩ := hrel
    have HB := Lib.hid hb; have HBL := Lib.hid hbl; clear hb hbl
    by_cases hlt : k < n
    · obtain ⟨ad, rfl, c0, c1⟩ := HA.out.at_ HB.out hlt
      have hsz := HSZ.out k hlt
      have hkl := La.key_length f k (fun i hi => HSZ.out i (by omega))
      have hky : La.key f (k + 1) = La.key f k ++ La.txt (f k).1 ++ La.txt (f k).2 := rfl
      have ht1 := La.txt_length (f k).1 hsz.1
      have ht2 := La.txt_length (f k).2 hsz.2
      have HKY := Lib.hid hky; clear hky
      have hT1 := Text_any (f k).1 hsz.1
      have hT2 := Text_any (f k).2 hsz.2
      have hal : Below wr.heap.size wr (wr.alloc (.cells #[.string (f k).1, .string (f k).2] 38)) := (Below.refl _ _).alloc (Nat.le_refl _) _
      have hrow : RowIs (wr.alloc (.cells #[.string (f k).1, .string (f k).2] 38)) wr.heap.size (.cells #[.string (f k).1, .string (f k).2] 38) := RowIs.one _ _
      have HBA := Lib.hid (below_step HB.out hal); have HBLA := Lib.hid (HBL.out.keep hal); have HROW := Lib.hid hrow
      clear hal hrow
      have hsum1 : (Num.smallB (f k).1.size ++ (f k).1).data.toList = La.txt (f k).1 := rfl
      have hsum2 : (Num.smallB (f k).2.size ++ (f k).2).data.toList = La.txt (f k).2 := rfl
      have hz1 : (Num.smallB (f k).1.size ++ (f k).1).size = (La.txt (f k).1).length := by simp [La.txt]
      have hz2 : (Num.smallB (f k).2.size ++ (f k).2).size = (La.txt (f k).2).length := by simp [La.txt]
      generalize Num.smallB (f k).1.size ++ (f k).1 = t1 at *
      generalize Num.smallB (f k).2.size ++ (f k).2 = t2 at *
      generalize (f k).1 = x at *
      generalize (f k).2 = y at *
      generalize La.txt x = l1 at *
      generalize La.txt y = l2 at *
      generalize La.key f k = kk at *
      have HT1 := Lib.hid hT1; have HT2 := Lib.hid hT2; have HS1 := Lib.hid hsum1; have HS2 := Lib.hid hsum2; have HZ1 := Lib.hid hz1; have HZ2 := Lib.hid hz2
      clear hT1 hT2 hsum1 hsum2 hz1 hz2
      generalize hwa : wr.alloc (.cells #[.string x, .string y] 38) = wa at *
      have xa0 : wa.cell? ⟨wr.heap.size, 0, none⟩ = some (.string x) := cell_of_row _ _ _ _ _ _ HROW.out
      go_wp2_with fail
      refine (HT1.out _).mono ?_; rintro e w4 ⟨rfl, hb4⟩
      have HB4 := Lib.hid (below_step HBA.out hb4); have HBL4 := Lib.hid (HBLA.out.keep hb4); have HROW4 := Lib.hid (HROW.out.keep hb4)
      clear hb4 xa0
      go_wp2_with fail
      refine (bldString w.heap.size w.heap.size kk t1 w4 HBL4.out (by have := HZ1.out; omega) HB4.out.size).mono ?_; rintro e w5 ⟨rfl, hl5, hb5, ho5⟩
      rw [HS1.out] at hl5
      have HB5 := Lib.hid (HB4.out.trans hb5); have HBL5 := Lib.hid hl5
      have hrow5 : RowIs w5 wr.heap.size (.cells #[.string x, .string y] 38) := ho5 _ _ _ HROW4.out (by have := HBL.out.lt; omega) (by decide)
      have HROW5 := Lib.hid hrow5
      clear hb5 hl5 hrow5 ho5
      have ya0 : w5.cell? ⟨wr.heap.size, 1, none⟩ = some (.string y) := cell_of_row _ _ _ _ _ _ HROW5.out
      go_wp2_with fail
      refine (HT2.out _).mono ?_; rintro e w6 ⟨rfl, hb6⟩
      have HB6 := Lib.hid (below_step HB5.out hb6); have HBL6 := Lib.hid (HBL5.out.keep hb6)
      clear hb6 ya0
      go_wp2_with fail
      refine (bldString w.heap.size w.heap.size (kk ++ l1) t2 w6 HBL6.out (by have := HZ2.out; rw [List.length_append]; omega) HB6.out.size).mono ?_; rintro e w7 ⟨rfl, hl7, hb7, _⟩
      rw [HS2.out] at hl7
      have HB7 := Lib.hid (HB6.out.trans hb7); have HBL7 := Lib.hid hl7
      clear hb7 hl7
      go_wp2_with fail
      go_roundw
      case rel => exact ⟨k + 1, by omega, by go_num, by rw [HKY.out]; exact HBL7.out, HB7.out⟩
      case measure => simp [intOf]; omega
    · obtain rfl : k = n := by omega
      go_wp2_with fail
      refine (bldText w.heap.size w.heap.size _ _ HBL.out HB.out.size).mono ?_; rintro e w4 ⟨rfl, hb4⟩
      have HB4 := Lib.hid (HB.out.trans hb4); clear hb4
      go_wp2_with fail
      go_ret
      exact ⟨rfl, HB4.out⟩
end Go.Proofs.Ytieoncjdhileoaa
