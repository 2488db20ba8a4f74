import Derived.Test.YtaillfnmaiiapaaNumO
import Derived.Test.YtaillfnmaiiapaaMathB
/-
  Frames: the mathematics.
-/
namespace Go.Proofs.Ytaillfnmaiiapaa
open Go.RowKit
namespace Fr

/-- a text with its length ahead -/
def txt (b : ByteArray) : ByteArray := Num.smallB b.size ++ b
/-- bytes in a frame -/
def put (b : ByteArray) : ByteArray := txt b ++ Crc.four (Crc.ofB (txt b))
/-- may a number go on? -/
def mayGo (s : ByteArray) : Bool := s.data.toList.all (fun b => decide (128 ≤ b.toNat)) && decide (s.size < 10)
/-- the number ahead: what it is, its bytes, whether it is one -/
def num (s : ByteArray) : Nat × Nat × Bool := Num.decp 0 0 s.data.toList
/-- what s begins with -/
def get (s : ByteArray) (most : Int) : ByteArray × ByteArray × Nat :=
  if mayGo s = true then (ByteArray.empty, s, 1)
  else if (num s).2.2 = false ∨ most < 0 ∨ most < ((num s).1 : Int) then (ByteArray.empty, s, 2)
  else if s.size < (num s).2.1 + (num s).1 + 4 then (ByteArray.empty, s, 1)
  else if s.extract ((num s).2.1 + (num s).1) ((num s).2.1 + (num s).1 + 4) = Crc.four (Crc.ofB (s.extract 0 ((num s).2.1 + (num s).1))) then
    (s.extract (num s).2.1 ((num s).2.1 + (num s).1), s.extract ((num s).2.1 + (num s).1 + 4) s.size, 0)
  else (ByteArray.empty, s, 2)

theorem txt_size (b : ByteArray) : (txt b).size = (Num.smallB b.size).size + b.size := by unfold txt; rw [ByteArray.size_append]
theorem small_le (n : Nat) : (Num.smallB n).size ≤ 10 := Num.enc_length_le 9 _
theorem put_size (b : ByteArray) : (put b).size = (Num.smallB b.size).size + b.size + 4 := by unfold put; rw [ByteArray.size_append, txt_size, Crc.four_size]
theorem put_pos (b : ByteArray) : 5 ≤ (put b).size := by rw [put_size]; have := Num.small_pos b.size; omega
theorem small_one (n : Nat) (h : n ≤ 127) : (Num.smallB n).size = 1 := by
  have h1 := Num.small_pos n
  have h2 : (Num.smallB n).size ≤ 1 := Num.enc_short 9 1 n (by omega) (by omega)
  omega
theorem small_two (n : Nat) (h : 127 < n) (h2 : n < 16384) : (Num.smallB n).size = 2 := by
  have h1 : (Num.smallB n).size ≤ 2 := Num.enc_short 9 2 n (by omega) (by omega)
  have h3 : 2 ≤ (Num.smallB n).size := by
    show 2 ≤ (Num.enc 9 n).length
    rw [Num.enc, if_pos (by omega)]
    have := Num.enc_length_pos 8 (n / 128)
    simp only [List.length_cons]; omega
  omega

theorem num_le_size (s : ByteArray) : (num s).2.1 ≤ s.size := by
  have := Num.decp_snd s.data.toList 0 0
  unfold num
  simpa using this
theorem num_lt (s : ByteArray) : (num s).1 < 18446744073709551616 := Num.decp_lt s.data.toList 0 0 (by decide) (by decide)
/-- a number ends with a byte below 128: so a beginning of one goes on -/
theorem decp_ok_low : ∀ (l : List UInt8) (i v : Nat), (Num.decp i v l).2.2 = true → l.all (fun b => decide (128 ≤ b.toNat)) = false
  | [], i, v, h => by simp [Num.decp] at h
  | b :: r, i, v, h => by
    rw [Num.decp] at h
    split at h
    · cases h
    · split at h
      · next hb => simp; intro hc; omega
      · have := decp_ok_low r _ _ h
        simp only [List.all_cons, this, Bool.and_false]
theorem num_ok_stop (s : ByteArray) (h : (num s).2.2 = true) : mayGo s = false := by
  unfold mayGo
  rw [decp_ok_low _ _ _ h, Bool.false_and]
theorem decp_ok_pos : ∀ (l : List UInt8) (i v : Nat), (Num.decp i v l).2.2 = true → i < (Num.decp i v l).2.1
  | [], i, v, h => by simp [Num.decp] at h
  | b :: r, i, v, h => by
    rw [Num.decp] at h ⊢
    split at h
    · cases h
    · next h1 =>
      rw [if_neg h1]
      split at h
      · next hb => rw [if_pos hb]; exact Nat.lt_succ_self _
      · next hb =>
        rw [if_neg hb]
        have := decp_ok_pos r _ _ h
        omega
theorem num_ok_pos (s : ByteArray) (h : (num s).2.2 = true) : 1 ≤ (num s).2.1 := decp_ok_pos _ _ _ h

theorem ext_left (a b : ByteArray) (k : Nat) (h : k ≤ a.size) : (a ++ b).extract 0 k = a.extract 0 k := by
  apply Crc.ba_ext
  rw [Crc.extract_data', Crc.extract_data', Crc.data_append]
  have := Crc.size_list a
  simp only [List.drop_zero, Nat.sub_zero]
  rw [List.take_append_of_le_length (by omega)]
theorem ext_mid (a b c : ByteArray) : (a ++ b ++ c).extract a.size (a.size + b.size) = b := by
  apply Crc.ba_ext
  rw [Crc.extract_data', Crc.data_append, Crc.data_append]
  have h1 := Crc.size_list a
  have h2 := Crc.size_list b
  rw [List.append_assoc, List.drop_left' h1, List.take_left' (by omega)]
theorem ext_whole (a : ByteArray) : a.extract 0 a.size = a := by
  apply Crc.ba_ext
  rw [Crc.extract_data']
  have h1 := Crc.size_list a
  simp only [List.drop_zero, Nat.sub_zero]
  rw [List.take_of_length_le (by omega)]
theorem ext_ext (s : ByteArray) (a b c : Nat) (h : c ≤ b - a) : (s.extract a b).extract 0 c = s.extract a (a + c) := by
  apply Crc.ba_ext
  rw [Crc.extract_data', Crc.extract_data', Crc.extract_data']
  simp only [List.drop_zero, Nat.sub_zero]
  rw [List.take_take]; congr 1; omega
theorem ext_drop (s : ByteArray) (a c : Nat) : (s.extract a s.size).extract c (s.extract a s.size).size = s.extract (a + c) s.size := by
  apply Crc.ba_ext
  rw [Crc.extract_data', Crc.extract_data', Crc.extract_data']
  have h1 := Crc.size_list s
  rw [ByteArray.size_extract, List.drop_take, List.drop_drop, List.take_take]
  congr 1; omega
theorem join (s : ByteArray) (a b : Nat) (h : a ≤ b) (_hb : b ≤ s.size) : s.extract 0 a ++ s.extract a b = s.extract 0 b := by
  apply Crc.ba_ext
  rw [Crc.data_append, Crc.extract_data', Crc.extract_data', Crc.extract_data']
  simp only [List.drop_zero, Nat.sub_zero]
  have e : b = a + (b - a) := by omega
  conv => rhs; rw [e, List.take_add]

theorem num_put (b r : ByteArray) (hb : b.size < 18446744073709551616) : num (put b ++ r) = (b.size, (Num.smallB b.size).size, true) := by
  unfold num put txt
  rw [ByteArray.append_assoc, ByteArray.append_assoc]
  exact Num.decp_small b.size hb _

/-- what is put is got, whatever stands behind it -/
theorem get_put (b r : ByteArray) (most : Int) (hm : (b.size : Int) ≤ most) (hb : b.size < 18446744073709551616) : get (put b ++ r) most = (b, r, 0) := by
  have hn := num_put b r hb
  have hg : mayGo (put b ++ r) = false := num_ok_stop _ (by rw [hn])
  have hz : (put b ++ r).size = (Num.smallB b.size).size + b.size + 4 + r.size := by rw [ByteArray.size_append, put_size]
  have e1 : (put b ++ r).extract 0 ((Num.smallB b.size).size + b.size) = txt b := by
    rw [ext_left _ _ _ (by rw [put_size]; omega)]
    unfold put
    rw [ext_left _ _ _ (by rw [txt_size]; omega), ← txt_size, ext_whole]
  have e2 : (put b ++ r).extract ((Num.smallB b.size).size + b.size) ((Num.smallB b.size).size + b.size + 4) = Crc.four (Crc.ofB (txt b)) := by
    have := ext_mid (txt b) (Crc.four (Crc.ofB (txt b))) r
    rw [Crc.four_size, txt_size] at this
    exact this
  have e3 : (put b ++ r).extract (Num.smallB b.size).size ((Num.smallB b.size).size + b.size) = b := by
    unfold put txt
    rw [ByteArray.append_assoc]
    exact ext_mid _ b _
  have e4 : (put b ++ r).extract ((Num.smallB b.size).size + b.size + 4) (put b ++ r).size = r := by
    have := Num.drop_app (put b) r
    rw [put_size] at this
    exact this
  unfold get
  rw [hg, hn]
  simp only [Bool.false_eq_true, if_false]
  rw [if_neg (by rintro (h | h | h) <;> first | cases h | omega), if_neg (by omega), e1, e2, if_pos rfl, e3, e4]
theorem get_long (b r : ByteArray) (most : Int) (hm : most < (b.size : Int)) (hb : b.size < 18446744073709551616) : get (put b ++ r) most = (ByteArray.empty, put b ++ r, 2) := by
  have hn := num_put b r hb
  have hg : mayGo (put b ++ r) = false := num_ok_stop _ (by rw [hn])
  unfold get
  rw [hg, hn]
  simp only [Bool.false_eq_true, if_false]
  rw [if_pos (.inr (.inr hm))]

/-- what is whole is what was put -/
theorem get_whole (s : ByteArray) (most : Int) (h : (get s most).2.2 = 0) : put (get s most).1 ++ (get s most).2.1 = s ∧ ((get s most).1.size : Int) ≤ most := by
  unfold get at h ⊢
  split at h
  · simp at h
  · next h1 =>
    rw [if_neg h1]
    split at h
    · simp at h
    · next h2 =>
      rw [if_neg h2]
      split at h
      · simp at h
      · next h3 =>
        rw [if_neg h3]
        split at h
        · next h4 =>
          rw [if_pos h4]
          have hok : (num s).2.2 = true := by
            cases hx : (num s).2.2 with
            | true => rfl
            | false => exact absurd (.inl hx) h2
          have hsb : Num.smallB (num s).1 = s.extract 0 (num s).2.1 ∧ (num s).1 < 18446744073709551616 := Num.small_back s hok
          have hz : (s.extract (num s).2.1 ((num s).2.1 + (num s).1)).size = (num s).1 := by rw [ByteArray.size_extract]; omega
          have ht : txt (s.extract (num s).2.1 ((num s).2.1 + (num s).1)) = s.extract 0 ((num s).2.1 + (num s).1) := by
            unfold txt
            rw [hz, hsb.1, join _ _ _ (by omega) (by omega)]
          refine ⟨?_, ?_⟩
          · show put (s.extract (num s).2.1 ((num s).2.1 + (num s).1)) ++ s.extract ((num s).2.1 + (num s).1 + 4) s.size = s
            unfold put
            rw [ht, ← h4, join _ _ _ (by omega) (by omega)]
            exact Num.split_at s _
          · show ((s.extract (num s).2.1 ((num s).2.1 + (num s).1)).size : Int) ≤ most
            rw [hz]
            have h5 : ¬ most < ((num s).1 : Int) := fun e => h2 (.inr (.inr e))
            omega
        · simp at h
theorem get_not (s : ByteArray) (most : Int) (h : (get s most).2.2 ≠ 0) : (get s most).1 = ByteArray.empty ∧ (get s most).2.1 = s := by
  unfold get at h ⊢
  split
  · exact ⟨rfl, rfl⟩
  · next h1 =>
    rw [if_neg h1] at h
    split
    · exact ⟨rfl, rfl⟩
    · next h2 =>
      rw [if_neg h2] at h
      split
      · exact ⟨rfl, rfl⟩
      · next h3 =>
        rw [if_neg h3] at h
        split
        · next h4 => rw [if_pos h4] at h; exact absurd rfl h
        · exact ⟨rfl, rfl⟩
theorem get_shape (s : ByteArray) (most : Int) : (get s most).2.2 ≤ 2 := by
  unfold get
  split
  · simp
  · split
    · simp
    · split
      · simp
      · split <;> simp
theorem get_less (s : ByteArray) (most : Int) (h : (get s most).2.2 = 0) : (get s most).2.1.size + 5 ≤ s.size := by
  have h1 := (get_whole s most h).1
  have h2 := congrArg ByteArray.size h1
  rw [ByteArray.size_append] at h2
  have := put_pos (get s most).1
  omega
end Fr
end Go.Proofs.Ytaillfnmaiiapaa
/-
  Frames, one behind the other: the mathematics.
-/
namespace Go.Proofs.Ytaillfnmaiiapaa
open Go.RowKit
namespace Fr

/-- all frames, up to the first that is not whole: what they have, and what is behind them -/
def run (most : Int) : Nat → ByteArray → List ByteArray × ByteArray
  | 0, s => ([], s)
  | f + 1, s => if (get s most).2.2 = 0 then ((get s most).1 :: (run most f (get s most).2.1).1, (run most f (get s most).2.1).2) else ([], s)
def all (s : ByteArray) (most : Int) : List ByteArray × ByteArray := run most s.size s
/-- the shape of what is behind them -/
def shape (r : ByteArray) (most : Int) : Nat := if r = ByteArray.empty then 0 else (get r most).2.2

theorem run_fuel (most : Int) : ∀ (f g : Nat) (s : ByteArray), s.size ≤ f → s.size ≤ g → run most f s = run most g s
  | 0, 0, s, _, _ => rfl
  | 0, g + 1, s, hf, _ => by
    rw [run, run, if_neg]
    intro h
    have := get_less s most h
    omega
  | f + 1, 0, s, _, hg => by
    rw [run, run, if_neg]
    intro h
    have := get_less s most h
    omega
  | f + 1, g + 1, s, hf, hg => by
    rw [run, run]
    split
    · next h =>
      have := get_less s most h
      rw [run_fuel most f g _ (by omega) (by omega)]
    · rfl
theorem all_more (s : ByteArray) (most : Int) (h : (get s most).2.2 = 0) : all s most = ((get s most).1 :: (all (get s most).2.1 most).1, (all (get s most).2.1 most).2) := by
  have h1 := get_less s most h
  unfold all
  rw [show s.size = (s.size - 1) + 1 from by omega, run, if_pos h, run_fuel most (s.size - 1) (get s most).2.1.size _ (by omega) (Nat.le_refl _)]
theorem all_none (s : ByteArray) (most : Int) (h : (get s most).2.2 ≠ 0) : all s most = ([], s) := by
  unfold all
  cases s.size with
  | zero => rfl
  | succ f => rw [run, if_neg h]
theorem all_put (b r : ByteArray) (most : Int) (hm : (b.size : Int) ≤ most) (hb : b.size < 18446744073709551616) : all (put b ++ r) most = (b :: (all r most).1, (all r most).2) := by
  have h := get_put b r most hm hb
  rw [all_more _ _ (by rw [h]), h]
/-- frames behind each other -/
def puts : List ByteArray → ByteArray
  | [] => ByteArray.empty
  | b :: l => put b ++ puts l
theorem puts_snoc (l : List ByteArray) (b : ByteArray) : puts (l ++ [b]) = puts l ++ put b := by
  induction l with
  | nil => simp [puts]
  | cons a l ih => rw [List.cons_append, puts, puts, ih, ByteArray.append_assoc]
theorem puts_append (l m : List ByteArray) : puts (l ++ m) = puts l ++ puts m := by
  induction l with
  | nil => simp [puts]
  | cons a l ih => rw [List.cons_append, puts, puts, ih, ByteArray.append_assoc]
theorem puts_size_take (l : List ByteArray) (n : Nat) (h : n < l.length) : (puts (l.take (n + 1))).size = (puts (l.take n)).size + (put l[n]).size := by
  rw [List.take_succ_eq_append_getElem h, puts_snoc, ByteArray.size_append]
/-- whole frames ahead of any bytes -/
theorem all_puts (most : Int) (r : ByteArray) : ∀ l : List ByteArray, (∀ b ∈ l, (b.size : Int) ≤ most ∧ b.size < 18446744073709551616) → all (puts l ++ r) most = (l ++ (all r most).1, (all r most).2)
  | [], _ => by simp [puts]
  | b :: l, h => by
    have h1 := h b (List.mem_cons_self ..)
    rw [puts, ByteArray.append_assoc, all_put b _ most h1.1 h1.2, all_puts most r l (fun c hc => h c (List.mem_cons_of_mem _ hc))]
    rfl

/-- a number's bytes but for the last are 128 or more -/
theorem enc_high : ∀ (f n k : Nat), k < (Num.enc f n).length → ((Num.enc f n).take k).all (fun b => decide (128 ≤ b.toNat)) = true
  | f, n, 0, _ => by simp
  | 0, n, k + 1, h => by simp [Num.enc] at h
  | f + 1, n, k + 1, h => by
    rw [Num.enc] at h ⊢
    split at h
    · next hn =>
      rw [if_pos hn]
      have h2 := enc_high f (n / 128) k (by simp at h; exact h)
      rw [List.take_succ_cons, List.all_cons, h2, Bool.and_true]
      simp; omega
    · simp at h
/-- what is torn is short -/
theorem get_torn (b p r : ByteArray) (most : Int) (hm : (b.size : Int) ≤ most) (hb : b.size < 18446744073709551616) (hp : p ++ r = put b) (hr : r ≠ ByteArray.empty) : (get p most).2.2 = 1 := by
  have hrz : 1 ≤ r.size := by
    rcases Nat.eq_zero_or_pos r.size with h | h
    · exact absurd (ByteArray.size_eq_zero_iff.1 h) hr
    · exact h
  have hz : p.size + r.size = (Num.smallB b.size).size + b.size + 4 := by rw [← put_size, ← hp, ByteArray.size_append]
  have hpl := Crc.size_list p
  have hsl := Crc.size_list (Num.smallB b.size)
  have hd : p.data.toList ++ r.data.toList = (Num.smallB b.size).data.toList ++ (b ++ Crc.four (Crc.ofB (txt b))).data.toList := by
    rw [← Crc.data_append, hp, ← Crc.data_append]
    unfold put
    conv => lhs; arg 1; arg 1; arg 1; unfold txt
    rw [ByteArray.append_assoc]
  rcases Nat.lt_or_ge p.size (Num.smallB b.size).size with hlt | hge
  · have hpt : p.data.toList = (Num.smallB b.size).data.toList.take p.size := by
      have := congrArg (List.take p.size) hd
      rwa [List.take_left' hpl, List.take_append_of_le_length (by omega)] at this
    have hg : mayGo p = true := by
      unfold mayGo
      have h1 : p.data.toList.all (fun b => decide (128 ≤ b.toNat)) = true := by
        rw [hpt]
        exact enc_high 9 b.size p.size (by rw [← hsl] at hlt; exact hlt)
      have h2 := small_le b.size
      rw [h1, Bool.true_and]
      simp; omega
    unfold get
    rw [if_pos hg]
  · have hpe : ∃ q : ByteArray, p = Num.smallB b.size ++ q := by
      refine ⟨p.extract (Num.smallB b.size).size p.size, ?_⟩
      apply Crc.ba_ext
      rw [Crc.data_append, Crc.extract_data']
      have := congrArg (List.take (Num.smallB b.size).size) hd
      rw [List.take_left' hsl, List.take_append_of_le_length (by omega)] at this
      rw [← this, List.take_of_length_le (l := List.drop _ _) (by simp), List.take_append_drop]
    obtain ⟨q, rfl⟩ := hpe
    have hn : num (Num.smallB b.size ++ q) = (b.size, (Num.smallB b.size).size, true) := Num.decp_small b.size hb q
    have hg : mayGo (Num.smallB b.size ++ q) = false := num_ok_stop _ (by rw [hn])
    unfold get
    rw [hg, hn]
    simp only [Bool.false_eq_true, if_false]
    rw [if_neg (by rintro (h | h | h) <;> first | cases h | omega), if_pos (by omega)]
theorem all_torn (b p r : ByteArray) (most : Int) (hm : (b.size : Int) ≤ most) (hb : b.size < 18446744073709551616) (hp : p ++ r = put b) (hr : r ≠ ByteArray.empty) : all p most = ([], p) ∧ shape p most = if p = ByteArray.empty then 0 else 1 := by
  have h := get_torn b p r most hm hb hp hr
  refine ⟨all_none _ _ (by omega), ?_⟩
  unfold shape
  rw [h]
/-- a beginning of whole frames is whole frames, and a short one -/
theorem all_cut (most : Int) (l : List ByteArray) (hl : ∀ b ∈ l, (b.size : Int) ≤ most ∧ b.size < 18446744073709551616) (at' n : Nat) (_hn : n ≤ l.length) (h1 : (puts (l.take n)).size ≤ at') (h2 : n < l.length → at' < (puts (l.take (n + 1))).size) (ha : at' ≤ (puts l).size) :
    (all ((puts l).extract 0 at') most).1 = l.take n ∧ (all ((puts l).extract 0 at') most).2.size + (puts (l.take n)).size = at' ∧ shape (all ((puts l).extract 0 at') most).2 most = if (puts (l.take n)).size = at' then 0 else 1 := by
  have hall : ∀ b ∈ l.take n, (b.size : Int) ≤ most ∧ b.size < 18446744073709551616 := fun b hb => hl b (List.mem_of_mem_take hb)
  have hsp : puts l = puts (l.take n) ++ puts (l.drop n) := by rw [← puts_append, List.take_append_drop]
  have hz : (puts l).size = (puts (l.take n)).size + (puts (l.drop n)).size := by conv => lhs; rw [hsp, ByteArray.size_append]
  have he : (puts l).extract 0 at' = puts (l.take n) ++ (puts (l.drop n)).extract 0 (at' - (puts (l.take n)).size) := by
    apply Crc.ba_ext
    rw [Crc.extract_data', Crc.data_append, Crc.extract_data', hsp, Crc.data_append]
    have := Crc.size_list (puts (l.take n))
    simp only [List.drop_zero, Nat.sub_zero]
    rw [List.take_append, this, List.take_of_length_le (by omega)]
  rw [he, all_puts most _ _ hall]
  generalize hP : (puts (l.take n)).size = P at *
  rcases Nat.lt_or_ge n l.length with hlt | hge
  · have hd : l.drop n = l[n] :: l.drop (n + 1) := List.drop_eq_getElem_cons hlt
    have h3 := h2 hlt
    rw [puts_size_take l n hlt, hP] at h3
    have hb := hl l[n] (List.getElem_mem ..)
    have hx : (puts (l.drop n)).extract 0 (at' - P) = (put l[n]).extract 0 (at' - P) := by
      rw [hd, puts, ext_left _ _ _ (by omega)]
    rw [hx]
    have ht := all_torn l[n] ((put l[n]).extract 0 (at' - P)) ((put l[n]).extract (at' - P) (put l[n]).size) most hb.1 hb.2 (Num.split_at _ _) (fun e => by
      have := congrArg ByteArray.size e
      rw [ByteArray.size_extract] at this
      simp at this; omega)
    have hsz : ((put l[n]).extract 0 (at' - P)).size = at' - P := by rw [ByteArray.size_extract]; omega
    rw [ht.1]
    refine ⟨by simp, by rw [hsz]; omega, ?_⟩
    rw [ht.2]
    by_cases hE : P = at'
    · rw [if_pos hE, if_pos]
      apply ByteArray.size_eq_zero_iff.1; omega
    · rw [if_neg hE, if_neg]
      intro e
      have := congrArg ByteArray.size e
      rw [hsz] at this
      simp at this; omega
  · have hdr : l.drop n = [] := List.drop_of_length_le hge
    have hz0 : (puts (l.drop n)).size = 0 := by rw [hdr]; rfl
    have hex : (puts (l.drop n)).extract 0 (at' - P) = ByteArray.empty := by
      apply ByteArray.size_eq_zero_iff.1
      rw [ByteArray.size_extract]; omega
    rw [hex]
    have hae : all ByteArray.empty most = ([], ByteArray.empty) := rfl
    rw [hae]
    refine ⟨by simp, by show 0 + P = at'; omega, ?_⟩
    rw [if_pos (by omega)]
    rfl
end Fr
end Go.Proofs.Ytaillfnmaiiapaa
