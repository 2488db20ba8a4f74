/-
  Frames: the mathematics.
-/
import Derived.Test.YtokofifecdpmfaaDoorNumO
import Derived.Test.YtokofifecdpmfaaDoorMathB
namespace Go.Proofs.YtokofifecdpmfaaDoor
open Go.RowKit
namespace Fr

/-- a text with its length ahead -/
def txt (b : ByteArray) : ByteArray := Num.smallB b.size ++ b
/-- bytes in a frame -/
def put (b : ByteArray) : ByteArray := txt b ++ Crc.four (Crc.ofB (txt b))
/-- may a number go on? -/
def mayGo (s : ByteArray) : Bool := s.data.toList.all (fun b => decide (128 ≤ b.toNat)) && decide (s.size < 10)
/-- the number ahead: what it is, its bytes, whether it is one -/
def num (s : ByteArray) : Nat × Nat × Bool := Num.decp 0 0 s.data.toList
/-- what s begins with -/
def get (s : ByteArray) (most : Int) : ByteArray × ByteArray × Nat :=
  if mayGo s = true then (ByteArray.empty, s, 1)
  else if (num s).2.2 = false ∨ most < 0 ∨ most < ((num s).1 : Int) then (ByteArray.empty, s, 2)
  else if s.size < (num s).2.1 + (num s).1 + 4 then (ByteArray.empty, s, 1)
  else if s.extract ((num s).2.1 + (num s).1) ((num s).2.1 + (num s).1 + 4) = Crc.four (Crc.ofB (s.extract 0 ((num s).2.1 + (num s).1))) then
    (s.extract (num s).2.1 ((num s).2.1 + (num s).1), s.extract ((num s).2.1 + (num s).1 + 4) s.size, 0)
  else (ByteArray.empty, s, 2)

theorem txt_size (b : ByteArray) : (txt b).size = (Num.smallB b.size).size + b.size := by unfold txt; rw [ByteArray.size_append]
theorem small_le (n : Nat) : (Num.smallB n).size ≤ 10 := Num.enc_length_le 9 _
theorem put_size (b : ByteArray) : (put b).size = (Num.smallB b.size).size + b.size + 4 := by unfold put; rw [ByteArray.size_append, txt_size, Crc.four_size]
theorem put_pos (b : ByteArray) : 5 ≤ (put b).size := by rw [put_size]; have := Num.small_pos b.size; omega
theorem small_one (n : Nat) (h : n ≤ 127) : (Num.smallB n).size = 1 := by
  have h1 := Num.small_pos n
  have h2 : (Num.smallB n).size ≤ 1 := Num.enc_short 9 1 n (by omega) (by omega)
  omega
theorem small_two (n : Nat) (h : 127 < n) (h2 : n < 16384) : (Num.smallB n).size = 2 := by
  have h1 : (Num.smallB n).size ≤ 2 := Num.enc_short 9 2 n (by omega) (by omega)
  have h3 : 2 ≤ (Num.smallB n).size := by
    show 2 ≤ (Num.enc 9 n).length
    rw [Num.enc, if_pos (by omega)]
    have := Num.enc_length_pos 8 (n / 128)
    simp only [List.length_cons]; omega
  omega

theorem num_le_size (s : ByteArray) : (num s).2.1 ≤ s.size := by
  have := Num.decp_snd s.data.toList 0 0
  unfold num
  simpa using this
theorem num_lt (s : ByteArray) : (num s).1 < 18446744073709551616 := Num.decp_lt s.data.toList 0 0 (by decide) (by decide)
/-- a number ends with a byte below 128: so a beginning of one goes on -/
theorem decp_ok_low : ∀ (l : List UInt8) (i v : Nat), (Num.decp i v l).2.2 = true → l.all (fun b => decide (128 ≤ b.toNat)) = false
  | [], i, v, h => by simp [Num.decp] at h
  | b :: r, i, v, h => by
    rw [Num.decp] at h
    split at h
    · cases h
    · split at h
      · next hb => simp; intro hc; omega
      · have := decp_ok_low r _ _ h
        simp only [List.all_cons, this, Bool.and_false]
theorem num_ok_stop (s : ByteArray) (h : (num s).2.2 = true) : mayGo s = false := by
  unfold mayGo
  rw [decp_ok_low _ _ _ h, Bool.false_and]
theorem decp_ok_pos : ∀ (l : List UInt8) (i v : Nat), (Num.decp i v l).2.2 = true → i < (Num.decp i v l).2.1
  | [], i, v, h => by simp [Num.decp] at h
  | b :: r, i, v, h => by
    rw [Num.decp] at h ⊢
    split at h
    · cases h
    · next h1 =>
      rw [if_neg h1]
      split at h
      · next hb => rw [if_pos hb]; exact Nat.lt_succ_self _
      · next hb =>
        rw [if_neg hb]
        have := decp_ok_pos r _ _ h
        omega
theorem num_ok_pos (s : ByteArray) (h : (num s).2.2 = true) : 1 ≤ (num s).2.1 := decp_ok_pos _ _ _ h

theorem ext_left (a b : ByteArray) (k : Nat) (h : k ≤ a.size) : (a ++ b).extract 0 k = a.extract 0 k := by
  apply Crc.ba_ext
  rw [Crc.extract_data', Crc.extract_data', Crc.data_append]
  have := Crc.size_list a
  simp only [List.drop_zero, Nat.sub_zero]
  rw [List.take_append_of_le_length (by omega)]
theorem ext_mid (a b c : ByteArray) : (a ++ b ++ c).extract a.size (a.size + b.size) = b := by
  apply Crc.ba_ext
  rw [Crc.extract_data', Crc.data_append, Crc.data_append]
  have h1 := Crc.size_list a
  have h2 := Crc.size_list b
  rw [List.append_assoc, List.drop_left' h1, List.take_left' (by omega)]
theorem ext_whole (a : ByteArray) : a.extract 0 a.size = a := by
  apply Crc.ba_ext
  rw [Crc.extract_data']
  have h1 := Crc.size_list a
  simp only [List.drop_zero, Nat.sub_zero]
  rw [List.take_of_length_le (by omega)]
theorem ext_ext (s : ByteArray) (a b c : Nat) (h : c ≤ b - a) : (s.extract a b).extract 0 c = s.extract a (a + c) := by
  apply Crc.ba_ext
  rw [Crc.extract_data', Crc.extract_data', Crc.extract_data']
  simp only [List.drop_zero, Nat.sub_zero]
  rw [List.take_take]; congr 1; omega
theorem ext_drop (s : ByteArray) (a c : Nat) : (s.extract a s.size).extract c (s.extract a s.size).size = s.extract (a + c) s.size := by
  apply Crc.ba_ext
  rw [Crc.extract_data', Crc.extract_data', Crc.extract_data']
  have h1 := Crc.size_list s
  rw [ByteArray.size_extract, List.drop_take, List.drop_drop, List.take_take]
  congr 1; omega
theorem join (s : ByteArray) (a b : Nat) (h : a ≤ b) (_hb : b ≤ s.size) : s.extract 0 a ++ s.extract a b = s.extract 0 b := by
  apply Crc.ba_ext
  rw [Crc.data_append, Crc.extract_data', Crc.extract_data', Crc.extract_data']
  simp only [List.drop_zero, Nat.sub_zero]
  have e : b = a + (b - a) := by omega
  conv => rhs; rw [e, List.take_add]

theorem num_put (b r : ByteArray) (hb : b.size < 18446744073709551616) : num (put b ++ r) = (b.size, (Num.smallB b.size).size, true) := by
  unfold num put txt
  rw [ByteArray.append_assoc, ByteArray.append_assoc]
  exact Num.decp_small b.size hb _

/-- what is put is got, whatever stands behind it -/
theorem get_put (b r : ByteArray) (most : Int) (hm : (b.size : Int) ≤ most) (hb : b.size < 18446744073709551616) : get (put b ++ r) most = (b, r, 0) := by
  have hn := num_put b r hb
  have hg : mayGo (put b ++ r) = false := num_ok_stop _ (by rw [hn])
  have hz : (put b ++ r).size = (Num.smallB b.size).size + b.size + 4 + r.size := by rw [ByteArray.size_append, put_size]
  have e1 : (put b ++ r).extract 0 ((Num.smallB b.size).size + b.size) = txt b := by
    rw [ext_left _ _ _ (by rw [put_size]; omega)]
    unfold put
    rw [ext_left _ _ _ (by rw [txt_size]; omega), ← txt_size, ext_whole]
  have e2 : (put b ++ r).extract ((Num.smallB b.size).size + b.size) ((Num.smallB b.size).size + b.size + 4) = Crc.four (Crc.ofB (txt b)) := by
    have := ext_mid (txt b) (Crc.four (Crc.ofB (txt b))) r
    rw [Crc.four_size, txt_size] at this
    exact this
  have e3 : (put b ++ r).extract (Num.smallB b.size).size ((Num.smallB b.size).size + b.size) = b := by
    unfold put txt
    rw [ByteArray.append_assoc]
    exact ext_mid _ b _
  have e4 : (put b ++ r).extract ((Num.smallB b.size).size + b.size + 4) (put b ++ r).size = r := by
    have := Num.drop_app (put b) r
    rw [put_size] at this
    exact this
  unfold get
  rw [hg, hn]
  simp only [Bool.false_eq_true, if_false]
  rw [if_neg (by rintro (h | h | h) <;> first | cases h | omega), if_neg (by omega), e1, e2, if_pos rfl, e3, e4]
theorem get_long (b r : ByteArray) (most : Int) (hm : most < (b.size : Int)) (hb : b.size < 18446744073709551616) : get (put b ++ r) most = (ByteArray.empty, put b ++ r, 2) := by
  have hn := num_put b r hb
  have hg : mayGo (put b ++ r) = false := num_ok_stop _ (by rw [hn])
  unfold get
  rw [hg, hn]
  simp only [Bool.false_eq_true, if_false]
  rw [if_pos (.inr (.inr hm))]

/-- what is whole is what was put -/
theorem get_whole (s : ByteArray) (most : Int) (h : (get s most).2.2 = 0) : put (get s most).1 ++ (get s most).2.1 = s ∧ ((get s most).1.size : Int) ≤ most := by
  unfold get at h ⊢
  split at h
  · simp at h
  · next h1 =>
    rw [if_neg h1]
    split at h
    · simp at h
    · next h2 =>
      rw [if_neg h2]
      split at h
      · simp at h
      · next h3 =>
        rw [if_neg h3]
        split at h
        · next h4 =>
          rw [if_pos h4]
          have hok : (num s).2.2 = true := by
            cases hx : (num s).2.2 with
            | true => rfl
            | false => exact absurd (.inl hx) h2
          have hsb : Num.smallB (num s).1 = s.extract 0 (num s).2.1 ∧ (num s).1 < 18446744073709551616 := Num.small_back s hok
          have hz : (s.extract (num s).2.1 ((num s).2.1 + (num s).1)).size = (num s).1 := by rw [ByteArray.size_extract]; omega
          have ht : txt (s.extract (num s).2.1 ((num s).2.1 + (num s).1)) = s.extract 0 ((num s).2.1 + (num s).1) := by
            unfold txt
            rw [hz, hsb.1, join _ _ _ (by omega) (by omega)]
          refine ⟨?_, ?_⟩
          · show put (s.extract (num s).2.1 ((num s).2.1 + (num s).1)) ++ s.extract ((num s).2.1 + (num s).1 + 4) s.size = s
            unfold put
            rw [ht, ← h4, join _ _ _ (by omega) (by omega)]
            exact Num.split_at s _
          · show ((s.extract (num s).2.1 ((num s).2.1 + (num s).1)).size : Int) ≤ most
            rw [hz]
            have h5 : ¬ most < ((num s).1 : Int) := fun e => h2 (.inr (.inr e))
            omega
        · simp at h
theorem get_not (s : ByteArray) (most : Int) (h : (get s most).2.2 ≠ 0) : (get s most).1 = ByteArray.empty ∧ (get s most).2.1 = s := by
  unfold get at h ⊢
  split
  · exact ⟨rfl, rfl⟩
  · next h1 =>
    rw [if_neg h1] at h
    split
    · exact ⟨rfl, rfl⟩
    · next h2 =>
      rw [if_neg h2] at h
      split
      · exact ⟨rfl, rfl⟩
      · next h3 =>
        rw [if_neg h3] at h
        split
        · next h4 => rw [if_pos h4] at h; exact absurd rfl h
        · exact ⟨rfl, rfl⟩
theorem get_shape (s : ByteArray) (most : Int) : (get s most).2.2 ≤ 2 := by
  unfold get
  split
  · simp
  · split
    · simp
    · split
      · simp
      · split <;> simp
theorem get_less (s : ByteArray) (most : Int) (h : (get s most).2.2 = 0) : (get s most).2.1.size + 5 ≤ s.size := by
  have h1 := (get_whole s most h).1
  have h2 := congrArg ByteArray.size h1
  rw [ByteArray.size_append] at h2
  have := put_pos (get s most).1
  omega
end Fr
end Go.Proofs.YtokofifecdpmfaaDoor
