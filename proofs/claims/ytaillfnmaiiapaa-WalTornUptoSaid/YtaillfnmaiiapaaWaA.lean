import Derived.Test.YtaillfnmaiiapaaWaM
import Derived.Test.YtaillfnmaiiapaaWaH
import Derived.Test.YtaillfnmaiiapaaLaG
import Derived.Test.YtaillfnmaiiapaaRoundAny
/-
  Changes as bytes, as mathematics: records of generation 1.
-/
namespace Go.Proofs.Ytaillfnmaiiapaa
open Go.RowKit
namespace Wa
/-- a byte -/
def byte (n : Int) : ByteArray := strOfNums [n % 256]
theorem byte_size (n : Int) : (byte n).size = 1 := by unfold byte; rw [strOfNums_size]; rfl
theorem byte_at (n : Int) (h : 0 ≤ n ∧ n ≤ 255) : Fr.at_ (byte n) 0 = n.toNat := by
  unfold Fr.at_ byte
  rw [strOfNums_data]
  have h1 : n % 256 = n := by omega
  rw [h1]
  simp
  omega
def u64 (n : Int) : Nat := (n % 18446744073709551616).toNat
theorem u64_lt (n : Int) : u64 n < 18446744073709551616 := by unfold u64; omega
theorem i64_u64 {n : Int} (h0 : -9223372036854775808 ≤ n) (h1 : n ≤ 9223372036854775807) : i64 (u64 n) = n := by
  have e : ((u64 n : Nat) : Int) = n % 18446744073709551616 := by unfold u64; omega
  unfold i64
  rw [e]
  rw [IntKind.wrap_i64]
  omega
/-- the labels' part of a record -/
def cells (f : Nat → Lab) : Nat → ByteArray
  | 0 => ByteArray.empty
  | i + 1 => cells f i ++ (Num.fixedB (f i).1 12 ++ Num.fixedB (f i).2 12)
theorem cells_size (f : Nat → Lab) : ∀ i, (cells f i).size = 26 * i
  | 0 => rfl
  | i + 1 => by
    show (cells f i ++ _).size = _
    rw [ByteArray.size_append, ByteArray.size_append, cells_size f i, Num.fixedB_size, Num.fixedB_size]
    omega
/-- a record's beginning -/
def front (r : Rec) : ByteArray := byte r.kind ++ Num.wideB (u64 r.t) ++ Num.wideB (u64 r.hi) ++ Num.wideB r.v ++ byte r.l.length
/-- a record without its check -/
def body (r : Rec) : ByteArray := front r ++ cells (La.at_ r.l) 6
/-- a record -/
def fix (r : Rec) : ByteArray := body r ++ Crc.four (Crc.ofB (body r))
theorem wide_size (n : Nat) : (Num.wideB n).size = 8 := by rw [Lib.size_eq]; exact Num.le_length n 8
theorem body_size (r : Rec) : (body r).size = 182 := by
  unfold body front
  simp only [ByteArray.size_append, byte_size, wide_size, cells_size]
theorem fix_size (r : Rec) : (fix r).size = 186 := by unfold fix; rw [ByteArray.size_append, body_size, Crc.four_size]
/-- the labels that a record tells: the first n of i -/
def labs (n : Nat) : Nat → Cu → List Lab × Cu
  | 0, c => ([], c)
  | i + 1, c =>
    (if i < n then (labs n i c).1 ++ [(((labs n i c).2.fixed 12).1, (((labs n i c).2.fixed 12).2.fixed 12).1)] else (labs n i c).1,
      (((labs n i c).2.fixed 12).2.fixed 12).2)
theorem labs_cells (n : Nat) (f : Nat → Lab) (hf : ∀ i, (f i).1.size ≤ 12 ∧ (f i).2.size ≤ 12) : ∀ i (r : ByteArray), labs n i ⟨cells f i ++ r, false⟩ = (La.listOf f (min i n), ⟨r, false⟩)
  | 0, r => by
    show ([], (⟨ByteArray.empty ++ r, false⟩ : Cu)) = _
    rw [Nat.zero_min]
    simp [La.listOf]
  | i + 1, r => by
    have h := labs_cells n f hf i (Num.fixedB (f i).1 12 ++ (Num.fixedB (f i).2 12 ++ r))
    have e : cells f (i + 1) ++ r = cells f i ++ (Num.fixedB (f i).1 12 ++ (Num.fixedB (f i).2 12 ++ r)) := by
      show (cells f i ++ (Num.fixedB (f i).1 12 ++ Num.fixedB (f i).2 12)) ++ r = _
      rw [ByteArray.append_assoc, ByteArray.append_assoc]
    have h1 := fixed_app (f i).1 (Num.fixedB (f i).2 12 ++ r) 12 (by decide) (hf i).1
    have h2 := fixed_app (f i).2 r 12 (by decide) (hf i).2
    rw [e]
    unfold labs
    simp only [h, h1, h2]
    by_cases hi : i < n
    · rw [if_pos hi, show min i n = i from by omega, show min (i + 1) n = i + 1 from by omega, La.listOf_succ]
    · rw [if_neg hi, show min i n = n from by omega, show min (i + 1) n = n from by omega]
/-- the change of a record -/
def rdFix (s : ByteArray) : Rec × Bool :=
  let k := Cu.take ⟨s, false⟩ 1
  let t := k.2.wide
  let h := t.2.wide
  let v := h.2.wide
  let n := v.2.take 1
  let l := labs (Fr.at_ n.1 0) 6 n.2
  (⟨(Fr.at_ k.1 0 : Nat), l.1, i64 t.1, i64 h.1, v.1⟩, !l.2.bad && decide (Fr.at_ n.1 0 ≤ 6))
theorem at_small {L : List Lab} (h : La.longest (La.at_ L) L.length ≤ 12) (i : Nat) : (La.at_ L i).1.size ≤ 12 ∧ (La.at_ L i).2.size ≤ 12 := by
  by_cases hi : i < L.length
  · have := La.longest_ge (La.at_ L) L.length i hi
    omega
  · have e : La.at_ L i = (ByteArray.empty, ByteArray.empty) := by
      unfold La.at_
      rw [List.getD_eq_getElem?_getD, List.getElem?_eq_none (by omega)]; rfl
    rw [e]
    decide
/-- what is told is read -/
theorem rdFix_fix {r : Rec} (hk : 0 ≤ r.kind ∧ r.kind ≤ 255) (hw : Words r) (hl : long r ≤ 12) (h6 : r.l.length ≤ 6) : rdFix (fix r) = (r, true) := by
  obtain ⟨kind, l, rt, hi, rv⟩ := r
  obtain ⟨w0, w1, w2, w3, w4⟩ := hw
  simp only at hk w0 w1 w2 w3 w4 hl h6
  have hf := at_small (L := l) hl
  have e : fix ⟨kind, l, rt, hi, rv⟩ = byte kind ++ (Num.wideB (u64 rt) ++ (Num.wideB (u64 hi) ++ (Num.wideB rv ++ (byte l.length ++ (cells (La.at_ l) 6 ++ Crc.four (Crc.ofB (body ⟨kind, l, rt, hi, rv⟩))))))) := by
    unfold fix body front
    simp only [ByteArray.append_assoc]
  have h5 := labs_cells l.length (La.at_ l) hf 6 (Crc.four (Crc.ofB (body ⟨kind, l, rt, hi, rv⟩)))
  generalize cells (La.at_ l) 6 ++ Crc.four (Crc.ofB (body ⟨kind, l, rt, hi, rv⟩)) = q5 at *
  have h4 := take_app (byte l.length) q5
  rw [byte_size] at h4
  have h3 := wide_app rv w4 (byte l.length ++ q5)
  have h2 := wide_app (u64 hi) (u64_lt _) (Num.wideB rv ++ (byte l.length ++ q5))
  have h1 := wide_app (u64 rt) (u64_lt _) (Num.wideB (u64 hi) ++ (Num.wideB rv ++ (byte l.length ++ q5)))
  have h0 := take_app (byte kind) (Num.wideB (u64 rt) ++ (Num.wideB (u64 hi) ++ (Num.wideB rv ++ (byte l.length ++ q5))))
  rw [byte_size] at h0
  have b0 := byte_at kind hk
  have b1 := byte_at (l.length : Int) (by omega)
  unfold rdFix
  rw [e]
  simp only [Int.natCast_one] at h0 h4
  simp only [h0, h1, h2, h3, h4, b0, b1, Int.toNat_natCast, h5]
  rw [i64_u64 w0 w1, i64_u64 w2 w3, show min 6 l.length = l.length from by omega, La.listOf_at, show ((kind.toNat : Nat) : Int) = kind from by omega]
  simp
  exact h6
end Wa
end Go.Proofs.Ytaillfnmaiiapaa
/-
  Changes as bytes, as mathematics: what bytes begin with; pieces, one behind the other.
-/
namespace Go.Proofs.Ytaillfnmaiiapaa
open Go.RowKit
namespace Wa
/-- what bytes begin with, in generation 1: changes, what is behind them, the shape -/
def take1 (s : ByteArray) : List Rec × ByteArray × Nat :=
  if s.size < 186 then ([], s, 1)
  else if (rdFix (s.extract 0 186)).2 = true ∧ fix (rdFix (s.extract 0 186)).1 = s.extract 0 186 then ([(rdFix (s.extract 0 186)).1], s.extract 186 s.size, 0)
  else ([], s, 2)
/-- .. in generation 2: and the keys, too -/
def take2 (K : List ByteArray) (s : ByteArray) : List Rec × List ByteArray × ByteArray × Nat :=
  if (Fr.get s 20000).2.2 = 0 then
    if (rd true K 0 0 ⟨(Fr.get s 20000).1, false⟩).2.2.s.size = 0 ∧ (rd true K 0 0 ⟨(Fr.get s 20000).1, false⟩).2.2.bad = false then
      ([(rd true K 0 0 ⟨(Fr.get s 20000).1, false⟩).1], (rd true K 0 0 ⟨(Fr.get s 20000).1, false⟩).2.1, (Fr.get s 20000).2.1, 0)
    else ([], (rd true K 0 0 ⟨(Fr.get s 20000).1, false⟩).2.1, s, 2)
  else ([], K, s, (Fr.get s 20000).2.2)
/-- generation 3 at work -/
structure St3 where
  l : List Rec
  K : List ByteArray
  t : Int
  v : Nat
  c : Cu
def nextT (r : Rec) (t : Int) : Int := if r.kind = 0 then r.t else t
def nextV (r : Rec) (v : Nat) : Nat := if r.kind = 0 then r.v else v
def step3 (z : St3) : St3 := ⟨z.l ++ [(rd false z.K z.t z.v z.c).1], (rd false z.K z.t z.v z.c).2.1, nextT (rd false z.K z.t z.v z.c).1 z.t, nextV (rd false z.K z.t z.v z.c).1 z.v, (rd false z.K z.t z.v z.c).2.2⟩
def run3 (n : Nat) : Nat → St3 → St3
  | 0, z => z
  | f + 1, z => if z.l.length < n ∧ z.c.bad = false then run3 n f (step3 z) else z
def did3 (K : List ByteArray) (b : ByteArray) : St3 := run3 (Cu.small ⟨b, false⟩).1 (b.size + 1) ⟨[], K, 0, 0, (Cu.small ⟨b, false⟩).2⟩
def take3 (K : List ByteArray) (s : ByteArray) : List Rec × List ByteArray × ByteArray × Nat :=
  if (Fr.get s 20000).2.2 = 0 then
    if (Cu.small ⟨(Fr.get s 20000).1, false⟩).1 ≠ 0 ∧ (did3 K (Fr.get s 20000).1).c.s.size = 0 ∧ (did3 K (Fr.get s 20000).1).c.bad = false then
      ((did3 K (Fr.get s 20000).1).l, (did3 K (Fr.get s 20000).1).K, (Fr.get s 20000).2.1, 0)
    else ([], (did3 K (Fr.get s 20000).1).K, s, 2)
  else ([], K, s, (Fr.get s 20000).2.2)
def take (g : Int) (K : List ByteArray) (s : ByteArray) : List Rec × List ByteArray × ByteArray × Nat :=
  if g = 1 then ((take1 s).1, K, (take1 s).2.1, (take1 s).2.2) else if g = 2 then take2 K s else take3 K s
/-- a piece: bytes, and the changes that they tell -/
structure Piece where
  b : ByteArray
  l : List Rec
/-- a piece that is read as it was put -/
structure Good (g : Int) (K : List ByteArray) (p : Piece) (K1 : List ByteArray) : Prop where
  whole : ∀ r, take g K (p.b ++ r) = (p.l, K1, r, 0)
  torn : ∀ q r, q ++ r = p.b → r ≠ ByteArray.empty → take g K q = ([], K, q, 1)
  some : 5 ≤ p.b.size
  valid : ∀ x ∈ p.l, valid x g = 0
theorem valid_may {r : Rec} {g : Int} (h : Wa.valid r g = 0) : may r = true ∧ long r ≤ La.limit g := by
  unfold Wa.valid at h
  split at h
  · simp at h
  · split at h
    · simp at h
    · rename_i h1 h2
      exact ⟨by simpa using h1, by omega⟩
theorem may_kind {r : Rec} (h : may r = true) : (r.kind = 0 ∨ r.kind = 1 ∨ r.kind = 2) ∧ r.l.length ≤ 6 := by
  unfold may at h
  split at h
  · simp only [Bool.and_eq_true] at h
    exact ⟨Or.inl ‹_›, (La.right_sizes _ h.1.1).1⟩
  · split at h
    · simp only [Bool.and_eq_true] at h
      exact ⟨Or.inr (Or.inl ‹_›), (La.right_sizes _ h.1.1).1⟩
    · split at h
      · simp only [Bool.and_eq_true, decide_eq_true_eq] at h
        exact ⟨Or.inr (Or.inr ‹_›), by rw [h.1.1.1]; exact Nat.zero_le _⟩
      · simp at h
theorem size_pos {r : ByteArray} (h : r ≠ ByteArray.empty) : 0 < r.size := by
  rcases Nat.eq_zero_or_pos r.size with h0 | h0
  · exact absurd (ByteArray.size_eq_zero_iff.1 h0) h
  · exact h0
/-- a record of generation 1 -/
theorem good1 (K : List ByteArray) {r : Rec} (h : Wa.valid r 1 = 0) (hw : Words r) : Good 1 K ⟨fix r, [r]⟩ K := by
  obtain ⟨hm, hl⟩ := valid_may h
  obtain ⟨hk, h6⟩ := may_kind hm
  have hz := fix_size r
  have hrd := rdFix_fix (r := r) (by omega) hw hl h6
  refine ⟨fun q => ?_, fun q x e hx => ?_, by show 5 ≤ (fix r).size; omega, fun x hx => by rw [List.mem_singleton.1 hx]; exact h⟩
  · have e1 : (fix r ++ q).extract 0 186 = fix r := by have := Num.take_app (fix r) q; rwa [hz] at this
    have e2 : (fix r ++ q).extract 186 (fix r ++ q).size = q := by have := Num.drop_app (fix r) q; rwa [hz] at this
    unfold take take1
    simp only [if_true]
    rw [if_neg (by rw [ByteArray.size_append]; omega), e1, hrd, e2, if_pos ⟨rfl, rfl⟩]
  · have hs : q.size + x.size = (fix r).size := by rw [← ByteArray.size_append]; exact congrArg _ e
    have := size_pos hx
    unfold take take1
    simp only [if_true]
    rw [if_pos (by omega)]
/-- a frame of generation 2 -/
theorem good2 {K : List ByteArray} (hK : Keys K) {r : Rec} (h : Wa.valid r 2 = 0) (hw : Words r) (hz : (tell true K 0 0 r).1.size ≤ 20000) :
    Good 2 K ⟨Fr.put (tell true K 0 0 r).1, [r]⟩ (tell true K 0 0 r).2 := by
  obtain ⟨hm, -⟩ := valid_may h
  have hrd := rd_tell true hK (t := 0) (v := 0) (by decide) (by decide) hm hw ByteArray.empty
  rw [ByteArray.append_empty] at hrd
  have hp := Fr.put_pos (tell true K 0 0 r).1
  refine ⟨fun q => ?_, fun q x e hx => ?_, hp, fun x hx => by rw [List.mem_singleton.1 hx]; exact h⟩
  · have hg := Fr.get_put (tell true K 0 0 r).1 q 20000 (by omega) (by omega)
    unfold take take2
    rw [if_neg (by decide), if_pos rfl]
    simp only [hg, hrd]
    rfl
  · have hg := Fr.get_torn (tell true K 0 0 r).1 q x 20000 (by omega) (by omega) e hx
    unfold take take2
    rw [if_neg (by decide), if_pos rfl, hg, if_neg (by decide)]
/-- changes as bytes in generation 3: the bytes, the keys, and the last sample -/
def tells (f : Nat → Rec) (K : List ByteArray) : Nat → ByteArray × List ByteArray × Int × Nat
  | 0 => (ByteArray.empty, K, 0, 0)
  | i + 1 => ((tells f K i).1 ++ (tell false (tells f K i).2.1 (tells f K i).2.2.1 (tells f K i).2.2.2 (f i)).1,
      (tell false (tells f K i).2.1 (tells f K i).2.2.1 (tells f K i).2.2.2 (f i)).2, nextT (f i) (tells f K i).2.2.1, nextV (f i) (tells f K i).2.2.2)
theorem tell_keys {two : Bool} {K : List ByteArray} (hK : Keys K) (h1 : K.length + 1 ≤ 1000000) {t : Int} {v : Nat} {r : Rec} (hr : may r = true) : Keys (tell two K t v r).2 := by
  unfold tell
  unfold may at hr
  split
  · rename_i h
    rw [if_pos h] at hr
    simp only [Bool.and_eq_true] at hr
    exact ser_keys hK h1 hr.1.1
  · rename_i h
    rw [if_neg h] at hr
    split
    · rename_i h'
      rw [if_pos h'] at hr
      simp only [Bool.and_eq_true] at hr
      exact ser_keys hK h1 hr.1.1
    · exact hK
theorem ser_len (K : List ByteArray) (l : List Lab) : (ser K l).2.length ≤ K.length + 1 := by
  unfold ser
  split
  · simp
  · simp
theorem tell_len (two : Bool) (K : List ByteArray) (t : Int) (v : Nat) (r : Rec) : (tell two K t v r).2.length ≤ K.length + 1 := by
  unfold tell
  split
  · exact ser_len K r.l
  · split
    · exact ser_len K r.l
    · simp
/-- generation 3 at work, behind i changes -/
theorem tells_inv {f : Nat → Rec} {K : List ByteArray} (hK : Keys K) (n : Nat) (hn : K.length + n ≤ 1000000) (hf : ∀ i, i < n → may (f i) = true ∧ Words (f i)) : ∀ i, i ≤ n →
    Keys (tells f K i).2.1 ∧ (tells f K i).2.1.length ≤ K.length + i ∧ isT (tells f K i).2.2.1 = true ∧ (tells f K i).2.2.2 < 18446744073709551616
  | 0, _ => ⟨hK, by show K.length ≤ K.length + 0; omega, rfl, by show (0 : Nat) < 18446744073709551616; decide⟩
  | i + 1, hi => by
    obtain ⟨h1, h2, h3, h4⟩ := tells_inv hK n hn hf i (by omega)
    obtain ⟨hm, hw⟩ := hf i (by omega)
    refine ⟨tell_keys h1 (by omega) hm, ?_, ?_, ?_⟩
    · have := tell_len false (tells f K i).2.1 (tells f K i).2.2.1 (tells f K i).2.2.2 (f i)
      show (tell false (tells f K i).2.1 (tells f K i).2.2.1 (tells f K i).2.2.2 (f i)).2.length ≤ _
      omega
    · show isT (nextT (f i) (tells f K i).2.2.1) = true
      unfold nextT
      split
      · rename_i h0
        unfold may at hm
        rw [if_pos h0] at hm
        simp only [Bool.and_eq_true] at hm
        exact hm.1.2
      · exact h3
    · show nextV (f i) (tells f K i).2.2.2 < _
      unfold nextV
      split
      · exact hw.v1
      · exact h4
/-- what is left of generation 3's bytes, behind i changes -/
def left (f : Nat → Rec) (K : List ByteArray) (i : Nat) : Nat → ByteArray
  | 0 => ByteArray.empty
  | j + 1 => left f K i j ++ (tell false (tells f K (i + j)).2.1 (tells f K (i + j)).2.2.1 (tells f K (i + j)).2.2.2 (f (i + j))).1
theorem tells_left (f : Nat → Rec) (K : List ByteArray) (i : Nat) : ∀ j, (tells f K (i + j)).1 = (tells f K i).1 ++ left f K i j
  | 0 => by show (tells f K i).1 = _ ++ ByteArray.empty; rw [ByteArray.append_empty]
  | j + 1 => by
    have e : (tells f K (i + (j + 1))).1 = (tells f K (i + j)).1 ++ (tell false (tells f K (i + j)).2.1 (tells f K (i + j)).2.2.1 (tells f K (i + j)).2.2.2 (f (i + j))).1 := rfl
    rw [e, tells_left f K i j, ByteArray.append_assoc]
    rfl
theorem left_cons (f : Nat → Rec) (K : List ByteArray) (i : Nat) : ∀ j, left f K i (j + 1) = (tell false (tells f K i).2.1 (tells f K i).2.2.1 (tells f K i).2.2.2 (f i)).1 ++ left f K (i + 1) j
  | 0 => by show ByteArray.empty ++ (tell false (tells f K i).2.1 (tells f K i).2.2.1 (tells f K i).2.2.2 (f i)).1 = _ ++ ByteArray.empty; rw [ByteArray.append_empty, ByteArray.empty_append]
  | j + 1 => by
    have h := left_cons f K i j
    show left f K i (j + 1) ++ _ = _ ++ (left f K (i + 1) j ++ _)
    rw [h, ByteArray.append_assoc, show i + 1 + j = i + (j + 1) from by omega]
theorem rd3 {f : Nat → Rec} {K : List ByteArray} (hK : Keys K) (n : Nat) (hn : K.length + n ≤ 1000000) (hf : ∀ i, i < n → may (f i) = true ∧ Words (f i)) :
    ∀ (j i F : Nat), i + j = n → j ≤ F → ∀ L : List Rec, L.length = i →
      run3 n F ⟨L, (tells f K i).2.1, (tells f K i).2.2.1, (tells f K i).2.2.2, ⟨left f K i j, false⟩⟩ = ⟨L ++ (List.range' i j).map f, (tells f K n).2.1, (tells f K n).2.2.1, (tells f K n).2.2.2, ⟨ByteArray.empty, false⟩⟩
  | 0, i, F, e, _, L, hL => by
    have e2 : i = n := by omega
    subst e2
    have : run3 i F ⟨L, (tells f K i).2.1, (tells f K i).2.2.1, (tells f K i).2.2.2, ⟨left f K i 0, false⟩⟩ = ⟨L, (tells f K i).2.1, (tells f K i).2.2.1, (tells f K i).2.2.2, ⟨left f K i 0, false⟩⟩ := by
      cases F with
      | zero => rfl
      | succ F => unfold run3; rw [if_neg (by rintro ⟨h, -⟩; simp only at h; omega)]
    rw [this]
    simp [left]
  | j + 1, i, 0, _, hF, _, _ => by omega
  | j + 1, i, F + 1, e, hF, L, hL => by
    obtain ⟨h1, h2, h3, h4⟩ := tells_inv hK n hn hf i (by omega)
    obtain ⟨hm, hw⟩ := hf i (by omega)
    have hr := rd_tell false h1 h3 h4 hm hw (left f K (i + 1) j)
    unfold run3
    rw [if_pos ⟨by show L.length < n; omega, rfl⟩, left_cons]
    unfold step3
    simp only [hr]
    have := rd3 hK n hn hf j (i + 1) F (by omega) (by omega) (L ++ [f i]) (by rw [List.length_append, hL]; rfl)
    refine this.trans ?_
    rw [List.range'_succ, List.map_cons, List.append_assoc]; rfl
theorem tell_pos (two : Bool) (K : List ByteArray) (t : Int) (v : Nat) (r : Rec) : 1 ≤ (tell two K t v r).1.size := by
  unfold tell
  split
  · have := Num.small_pos 0; simp only [ByteArray.size_append]; omega
  · split
    · have := Num.small_pos 1; simp only [ByteArray.size_append]; omega
    · have := Num.small_pos 2; simp only [ByteArray.size_append]; omega
theorem tells_size (f : Nat → Rec) (K : List ByteArray) : ∀ n, n ≤ (tells f K n).1.size
  | 0 => Nat.zero_le _
  | n + 1 => by
    have h1 := tells_size f K n
    have h2 := tell_pos false (tells f K n).2.1 (tells f K n).2.2.1 (tells f K n).2.2.2 (f n)
    show n + 1 ≤ ((tells f K n).1 ++ _).size
    rw [ByteArray.size_append]; omega
/-- a frame of generation 3 -/
theorem good3 {K : List ByteArray} (hK : Keys K) {f : Nat → Rec} {n : Nat} (h0 : 0 < n) (hn : K.length + n ≤ 1000000) (hf : ∀ i, i < n → Wa.valid (f i) 3 = 0 ∧ Words (f i)) (hz : (Num.smallB n ++ (tells f K n).1).size ≤ 20000) :
    Good 3 K ⟨Fr.put (Num.smallB n ++ (tells f K n).1), (List.range n).map f⟩ (tells f K n).2.1 := by
  have hf2 : ∀ i, i < n → may (f i) = true ∧ Words (f i) := fun i hi => ⟨(valid_may (hf i hi).1).1, (hf i hi).2⟩
  have hp := Fr.put_pos (Num.smallB n ++ (tells f K n).1)
  have hs := small_app n (by omega) (tells f K n).1
  have hsz := tells_size f K n
  have hd : did3 K (Num.smallB n ++ (tells f K n).1) = ⟨(List.range n).map f, (tells f K n).2.1, (tells f K n).2.2.1, (tells f K n).2.2.2, ⟨ByteArray.empty, false⟩⟩ := by
    unfold did3
    rw [hs]
    have e : (tells f K n).1 = left f K 0 n := by
      have := tells_left f K 0 n
      rw [Nat.zero_add] at this
      rw [this]
      show ByteArray.empty ++ _ = _
      rw [ByteArray.empty_append]
    have := rd3 hK n hn hf2 n 0 ((Num.smallB n ++ (tells f K n).1).size + 1) (by omega) (by rw [ByteArray.size_append]; omega) [] rfl
    rw [← List.range_eq_range', List.nil_append, ← e] at this
    exact this
  refine ⟨fun q => ?_, fun q x e hx => ?_, hp, fun x hx => ?_⟩
  · have hg := Fr.get_put (Num.smallB n ++ (tells f K n).1) q 20000 (by omega) (by omega)
    unfold take take3
    rw [if_neg (by decide), if_neg (by decide)]
    simp only [hg, hd, hs]
    rw [if_pos trivial, if_pos ⟨by omega, rfl, trivial⟩]
  · have hg := Fr.get_torn (Num.smallB n ++ (tells f K n).1) q x 20000 (by omega) (by omega) e hx
    unfold take take3
    rw [if_neg (by decide), if_neg (by decide), hg, if_neg (by decide)]
  · obtain ⟨i, hi, rfl⟩ := List.mem_map.1 hx
    exact (hf i (List.mem_range.1 hi)).1
end Wa
end Go.Proofs.Ytaillfnmaiiapaa
/-
  Changes as bytes, as mathematics: what is read of pieces, whole or cut.
-/
namespace Go.Proofs.Ytaillfnmaiiapaa
open Go.RowKit
namespace Wa
def cat : List Piece → ByteArray
  | [] => ByteArray.empty
  | p :: P => p.b ++ cat P
def recs : List Piece → List Rec
  | [] => []
  | p :: P => p.l ++ recs P
theorem cat_append : ∀ P Q : List Piece, cat (P ++ Q) = cat P ++ cat Q
  | [], Q => by show cat Q = ByteArray.empty ++ _; rw [ByteArray.empty_append]
  | p :: P, Q => by show p.b ++ cat (P ++ Q) = (p.b ++ cat P) ++ _; rw [cat_append P Q, ByteArray.append_assoc]
theorem recs_append : ∀ P Q : List Piece, recs (P ++ Q) = recs P ++ recs Q
  | [], _ => rfl
  | p :: P, Q => by show p.l ++ recs (P ++ Q) = (p.l ++ recs P) ++ _; rw [recs_append P Q, List.append_assoc]
/-- pieces, each behind what the ones ahead told -/
inductive Chain (g : Int) : List ByteArray → List Piece → List ByteArray → Prop
  | nil (K : List ByteArray) : Chain g K [] K
  | cons {K K1 K2 : List ByteArray} {p : Piece} {P : List Piece} (h : Good g K p K1) (t : Chain g K1 P K2) : Chain g K (p :: P) K2
theorem Chain.append {g : Int} {K K1 K2 : List ByteArray} {P Q : List Piece} (h : Chain g K P K1) (h2 : Chain g K1 Q K2) : Chain g K (P ++ Q) K2 := by
  induction h with
  | nil => exact h2
  | cons hp _ ih => exact .cons hp (ih h2)
theorem Chain.one {g : Int} {K K1 : List ByteArray} {p : Piece} (h : Good g K p K1) : Chain g K [p] K1 := .cons h (.nil _)
theorem Chain.take {g : Int} {K K2 : List ByteArray} {P : List Piece} (h : Chain g K P K2) : ∀ m, ∃ K1, Chain g K (P.take m) K1 := by
  induction h with
  | nil K => intro m; exact ⟨K, by rw [List.take_nil]; exact .nil K⟩
  | cons hp _ ih =>
    intro m
    cases m with
    | zero => exact ⟨_, .nil _⟩
    | succ m => obtain ⟨K1, h1⟩ := ih m; exact ⟨K1, .cons hp h1⟩
/-- are all changes such as may be? -/
def allOk (g : Int) (L : List Rec) : Bool := L.all (fun x => decide (valid x g = 0))
/-- what is read: changes, keys, what is left; nothing, if bytes are wrong -/
def scan (g : Int) : Nat → List ByteArray → List Rec → ByteArray → Option (List Rec × List ByteArray × ByteArray)
  | 0, K, L, s => some (L, K, s)
  | f + 1, K, L, s =>
    if s.size = 0 then some (L, K, s)
    else if (take g K s).2.2.2 = 1 then some (L, (take g K s).2.1, s)
    else if (take g K s).2.2.2 = 2 ∨ allOk g (take g K s).1 = false then none
    else scan g f (take g K s).2.1 (L ++ (take g K s).1) (take g K s).2.2.1
def scanD (g : Int) (K : List ByteArray) (L : List Rec) (s : ByteArray) : Option (List Rec × List ByteArray × ByteArray) := scan g (s.size + 1) K L s
theorem take_less (g : Int) (K : List ByteArray) (s : ByteArray) (h : (take g K s).2.2.2 = 0) : (take g K s).2.2.1.size < s.size := by
  unfold take at h ⊢
  split
  · rename_i hg
    rw [if_pos hg] at h
    simp only at h ⊢
    unfold take1 at h ⊢
    split
    · rename_i h1; rw [if_pos h1] at h; simp at h
    · rename_i h1
      rw [if_neg h1] at h
      split
      · simp only [ByteArray.size_extract]; omega
      · rename_i h2; rw [if_neg h2] at h; simp at h
  · rename_i hg
    rw [if_neg hg] at h
    split
    · rename_i hg2
      rw [if_pos hg2] at h
      unfold take2 at h ⊢
      split
      · rename_i h1
        rw [if_pos h1] at h
        have := Fr.get_less s 20000 h1
        split
        · show (Fr.get s 20000).2.1.size < s.size; omega
        · rename_i h2; rw [if_neg h2] at h; simp at h
      · rename_i h1; rw [if_neg h1] at h; exact absurd h h1
    · rename_i hg2
      rw [if_neg hg2] at h
      unfold take3 at h ⊢
      split
      · rename_i h1
        rw [if_pos h1] at h
        have := Fr.get_less s 20000 h1
        split
        · show (Fr.get s 20000).2.1.size < s.size; omega
        · rename_i h2; rw [if_neg h2] at h; simp at h
      · rename_i h1; rw [if_neg h1] at h; exact absurd h h1
theorem take_shape (g : Int) (K : List ByteArray) (s : ByteArray) : (take g K s).2.2.2 ≤ 2 := by
  have hs := Fr.get_shape s 20000
  unfold take take1 take2 take3
  repeat' split
  all_goals first | exact hs | (show (0 : Nat) ≤ 2; omega) | (show (1 : Nat) ≤ 2; omega) | (show (2 : Nat) ≤ 2; omega)
theorem scan_fuel (g : Int) : ∀ (f f2 : Nat) (K : List ByteArray) (L : List Rec) (s : ByteArray), s.size < f → s.size < f2 → scan g f K L s = scan g f2 K L s
  | 0, _, _, _, _, h, _ => by omega
  | _ + 1, 0, _, _, _, _, h => by omega
  | f + 1, f2 + 1, K, L, s, h, h2 => by
    unfold scan
    split
    · rfl
    · split
      · rfl
      · rename_i h1
        split
        · rfl
        · rename_i h3
          have hs := take_shape g K s
          have hl := take_less g K s (by omega)
          exact scan_fuel g f f2 _ _ _ (by omega) (by omega)
theorem scanD_nil (g : Int) (K : List ByteArray) (L : List Rec) : scanD g K L ByteArray.empty = some (L, K, ByteArray.empty) := rfl
/-- one take, and on -/
theorem scanD_step (g : Int) (K : List ByteArray) (L : List Rec) (s : ByteArray) (h0 : s.size ≠ 0) : scanD g K L s =
    if (take g K s).2.2.2 = 1 then some (L, (take g K s).2.1, s)
    else if (take g K s).2.2.2 = 2 ∨ allOk g (take g K s).1 = false then none
    else scanD g (take g K s).2.1 (L ++ (take g K s).1) (take g K s).2.2.1 := by
  have e : scanD g K L s = scan g (s.size + 1) K L s := rfl
  rw [e]
  unfold scan
  rw [if_neg h0]
  split
  · rfl
  · rename_i h1
    split
    · rfl
    · rename_i h3
      have hs := take_shape g K s
      have hl := take_less g K s (by omega)
      exact scan_fuel g _ _ _ _ _ (by omega) (by omega)
theorem scan_chain {g : Int} {K K2 : List ByteArray} {P : List Piece} (h : Chain g K P K2) : ∀ (L : List Rec) (r : ByteArray), scanD g K L (cat P ++ r) = scanD g K2 (L ++ recs P) r := by
  induction h with
  | nil K => intro L r; show scanD g K L (ByteArray.empty ++ r) = scanD g K (L ++ []) r; rw [ByteArray.empty_append, List.append_nil]
  | @cons K K1 K2 p P hp _ ih =>
    intro L r
    show scanD g K L ((p.b ++ cat P) ++ r) = scanD g K2 (L ++ (p.l ++ recs P)) r
    have hs := hp.some
    rw [ByteArray.append_assoc, scanD_step g K L _ (by rw [ByteArray.size_append]; omega), hp.whole (cat P ++ r)]
    have ha : allOk g p.l = true := List.all_eq_true.2 fun x hx => decide_eq_true (hp.valid x hx)
    rw [if_neg (by simp), if_neg (by rw [ha]; simp)]
    show scanD g K1 (L ++ p.l) (cat P ++ r) = _
    rw [ih, List.append_assoc]
theorem scan_all {g : Int} {K K2 : List ByteArray} {P : List Piece} (h : Chain g K P K2) (L : List Rec) : scanD g K L (cat P) = some (L ++ recs P, K2, ByteArray.empty) := by
  have := scan_chain h L ByteArray.empty
  rwa [ByteArray.append_empty, scanD_nil] at this
/-- what is read of pieces that are cut somewhere: those that are whole -/
theorem scan_cut {g : Int} {K K2 : List ByteArray} {P : List Piece} (h : Chain g K P K2) : ∀ (k : Nat) (L : List Rec), k ≤ (cat P).size → ∃ m q K1, m ≤ P.length ∧ (cat P).extract 0 k = cat (P.take m) ++ q ∧
    scanD g K L ((cat P).extract 0 k) = some (L ++ recs (P.take m), K1, q) ∧ (∀ p, P[m]? = some p → q.size < p.b.size) ∧ (m = P.length → q.size = 0) := by
  induction h with
  | nil K =>
    intro k L hk
    have e : (ByteArray.empty).extract 0 k = ByteArray.empty := by
      apply ByteArray.size_eq_zero_iff.1
      rw [ByteArray.size_extract]
      have : ByteArray.empty.size = 0 := rfl
      omega
    exact ⟨0, ByteArray.empty, K, Nat.le_refl _, by show ByteArray.empty.extract 0 k = ByteArray.empty ++ ByteArray.empty; rw [e, ByteArray.append_empty], by
      show scanD g K L (ByteArray.empty.extract 0 k) = some (L ++ [], K, ByteArray.empty)
      rw [e, List.append_nil]; rfl, fun p hp => by simp at hp, fun _ => rfl⟩
  | @cons K K1 K2 p P hp _ ih =>
    intro k L hk
    have hs := hp.some
    have hsz : (cat (p :: P)).size = p.b.size + (cat P).size := ByteArray.size_append
    by_cases hb : p.b.size ≤ k
    · have e : (cat (p :: P)).extract 0 k = p.b ++ (cat P).extract 0 (k - p.b.size) := by
        show (p.b ++ cat P).extract 0 k = _
        apply ByteArray.ext; apply Array.toList_inj.1
        have h1 : p.b.data.toList.length = p.b.size := by simp
        have h2 : (cat P).data.toList.length = (cat P).size := by simp
        simp only [ByteArray.data_extract, Array.toList_extract, List.extract_eq_take_drop, Num.app_list, List.drop_zero, Nat.sub_zero]
        rw [List.take_append, List.take_of_length_le (by omega), h1]
      obtain ⟨m, q, K3, h1, h2, h3, h4, h5⟩ := ih (k - p.b.size) (L ++ p.l) (by omega)
      refine ⟨m + 1, q, K3, by show m + 1 ≤ P.length + 1; omega, ?_, ?_, h4, fun hm => h5 (by have : m + 1 = P.length + 1 := hm; omega)⟩
      · rw [e, h2]
        show p.b ++ (cat (P.take m) ++ q) = (p.b ++ cat (P.take m)) ++ q
        rw [ByteArray.append_assoc]
      · rw [e, scanD_step g K L _ (by rw [ByteArray.size_append]; omega), hp.whole]
        have ha : allOk g p.l = true := List.all_eq_true.2 fun x hx => decide_eq_true (hp.valid x hx)
        rw [if_neg (by simp), if_neg (by rw [ha]; simp)]
        refine h3.trans ?_
        show some ((L ++ p.l) ++ recs (P.take m), K3, q) = some (L ++ (p.l ++ recs (P.take m)), K3, q)
        rw [List.append_assoc]
    · have e : (cat (p :: P)).extract 0 k = p.b.extract 0 k := Fr.ext_left p.b (cat P) k (by omega)
      have hq : p.b.extract 0 k ++ p.b.extract k p.b.size = p.b := Num.split_at p.b k
      have hz : (p.b.extract 0 k).size = k := by rw [ByteArray.size_extract]; omega
      have ht := hp.torn (p.b.extract 0 k) (p.b.extract k p.b.size) hq (fun h0 => by
        have := congrArg ByteArray.size h0
        rw [ByteArray.size_extract] at this
        have h9 : ByteArray.empty.size = 0 := rfl
        omega)
      refine ⟨0, p.b.extract 0 k, K, Nat.zero_le _, ?_, ?_, fun p' hp' => ?_, fun h0 => by simp at h0⟩
      · rw [e]
        show _ = ByteArray.empty ++ _
        rw [ByteArray.empty_append]
      · rw [e]
        show _ = some (L ++ [], K, _)
        rw [List.append_nil]
        by_cases h0 : k = 0
        · subst h0
          have : p.b.extract 0 0 = ByteArray.empty := ByteArray.size_eq_zero_iff.1 hz
          rw [this]; rfl
        · rw [scanD_step g K L _ (by omega), ht, if_pos rfl]
      · have : p = p' := by simpa using hp'
        subst this; omega
/-- a whole part of what is cut is among what is read -/
theorem cut_whole {P : List Piece} {m k j : Nat} {q : ByteArray} (hm : m ≤ P.length) (he : (cat P).extract 0 k = cat (P.take m) ++ q) (hk : k ≤ (cat P).size) (hq : ∀ p, P[m]? = some p → q.size < p.b.size) (hj : (cat (P.take j)).size ≤ k) (hjl : j ≤ P.length) : j ≤ m := by
  refine Nat.le_of_not_lt fun hlt => ?_
  have hz : (cat (P.take m)).size + q.size = k := by
    have := congrArg ByteArray.size he
    rw [ByteArray.size_extract, ByteArray.size_append] at this
    omega
  have hml : m < P.length := by omega
  have h1 := hq P[m] (List.getElem?_eq_getElem hml)
  have h2 : P.take (m + 1) = P.take m ++ [P[m]] := List.take_succ_eq_append_getElem hml
  have h3 : (cat (P.take (m + 1))).size = (cat (P.take m)).size + P[m].b.size := by
    rw [h2, cat_append, ByteArray.size_append]
    show _ + (P[m].b ++ ByteArray.empty).size = _
    rw [ByteArray.append_empty]
  have h4 : P.take j = P.take (m + 1) ++ (P.take j).drop (m + 1) := by
    have := (List.take_append_drop (m + 1) (P.take j)).symm
    rwa [List.take_take, show min (m + 1) j = m + 1 from by omega] at this
  rw [h4, cat_append, ByteArray.size_append] at hj
  omega
theorem cut_not {P : List Piece} {m k j : Nat} {q : ByteArray} (he : (cat P).extract 0 k = cat (P.take m) ++ q) (hk : k ≤ (cat P).size) (hj : k < (cat (P.take j)).size) : m < j := by
  refine Nat.lt_of_not_le fun hle => ?_
  have hz : (cat (P.take m)).size + q.size = k := by
    have := congrArg ByteArray.size he
    rw [ByteArray.size_extract, ByteArray.size_append] at this
    omega
  have h4 : P.take m = P.take j ++ (P.take m).drop j := by
    have := (List.take_append_drop j (P.take m)).symm
    rwa [List.take_take, show min j m = j from by omega] at this
  rw [h4, cat_append, ByteArray.size_append] at hz
  omega
end Wa
end Go.Proofs.Ytaillfnmaiiapaa
/-
  Changes as bytes, as mathematics: rows of changes, one behind the other.
-/
namespace Go.Proofs.Ytaillfnmaiiapaa
open Go.RowKit
namespace Wa
/-- the first error of changes -/
def firstErr (f : Nat → Rec) (g : Int) : Nat → Int
  | 0 => 0
  | i + 1 => if firstErr f g i = 0 then valid (f i) g else firstErr f g i
theorem firstErr_ok {f : Nat → Rec} {g : Int} : ∀ {n : Nat}, firstErr f g n = 0 ↔ ∀ i, i < n → valid (f i) g = 0
  | 0 => ⟨fun _ i hi => by omega, fun _ => rfl⟩
  | n + 1 => by
    have ih := @firstErr_ok f g n
    have e : firstErr f g (n + 1) = if firstErr f g n = 0 then valid (f n) g else firstErr f g n := rfl
    rw [e]
    split
    · rename_i h
      refine ⟨fun h1 i hi => ?_, fun h1 => h1 n (by omega)⟩
      by_cases hn : i = n
      · rw [hn]; exact h1
      · exact ih.1 h i (by omega)
    · rename_i h
      exact ⟨fun h1 => absurd h1 h, fun h1 => absurd (ih.2 fun i hi => h1 i (by omega)) h⟩
/-- records of generation 1 -/
def fixes (f : Nat → Rec) : Nat → ByteArray
  | 0 => ByteArray.empty
  | i + 1 => fixes f i ++ fix (f i)
/-- frames of generation 2, and the keys -/
def frs (f : Nat → Rec) (K : List ByteArray) : Nat → ByteArray × List ByteArray
  | 0 => (ByteArray.empty, K)
  | i + 1 => ((frs f K i).1 ++ Fr.put (tell true (frs f K i).2 0 0 (f i)).1, (tell true (frs f K i).2 0 0 (f i)).2)
/-- what a generation-3 frame has in it -/
def batch (f : Nat → Rec) (K : List ByteArray) (n : Nat) : ByteArray := Num.smallB n ++ (tells f K n).1
/-- changes as bytes, behind keys; the keys then, and the error -/
def putR (g : Int) (K : List ByteArray) (f : Nat → Rec) (n : Nat) : ByteArray × List ByteArray × Int :=
  if g < 1 ∨ 3 < g then (ByteArray.empty, K, 1)
  else if firstErr f g n ≠ 0 then (ByteArray.empty, K, firstErr f g n)
  else if g = 1 then (fixes f n, K, 0)
  else if g = 2 then ((frs f K n).1, (frs f K n).2, 0)
  else if n = 0 then (ByteArray.empty, K, 0)
  else if 20000 < (batch f K n).size then (ByteArray.empty, K, 7)
  else (Fr.put (batch f K n), (tells f K n).2.1, 0)
theorem ser_size {K : List ByteArray} {l : List Lab} (hl : La.rightL l = true) : (ser K l).1.size ≤ 3740 := by
  have hz := key_size hl
  unfold ser
  split
  · have := Fr.small_le (by assumption)
    show (Num.smallB _).size ≤ _
    omega
  · have h1 := Fr.small_le K.length
    have h2 := Fr.small_le (key l).size
    show (Num.smallB K.length ++ Fr.txt (key l)).size ≤ _
    rw [ByteArray.size_append, Fr.txt_size]; omega
theorem tell_size {two : Bool} {K : List ByteArray} {t : Int} {v : Nat} {r : Rec} (h : may r = true) : (tell two K t v r).1.size ≤ 3780 := by
  unfold may at h
  have s0 := Fr.small_le 0
  have s1 := Fr.small_le 1
  have s2 := Fr.small_le 2
  unfold tell
  split
  · rename_i h0
    rw [if_pos h0] at h
    simp only [Bool.and_eq_true] at h
    have hs := ser_size (K := K) h.1.1
    have hm : (smp two t v r).size ≤ 20 := by
      unfold smp
      split
      · rw [ByteArray.size_append, wide_size]; have := Fr.small_le r.t.toNat; omega
      · rw [ByteArray.size_append]; have := Fr.small_le (Num.zig (r.t - t)); have := Fr.small_le (r.v ^^^ v); omega
    simp only [ByteArray.size_append]; omega
  · rename_i h0
    rw [if_neg h0] at h
    split
    · rename_i h1
      rw [if_pos h1] at h
      simp only [Bool.and_eq_true] at h
      have hs := ser_size (K := K) h.1.1
      have := Fr.small_le (Num.zig r.t)
      have := Fr.small_le (Num.zig r.hi)
      simp only [ByteArray.size_append]; omega
    · have := Fr.small_le r.t.toNat
      simp only [ByteArray.size_append]; omega
theorem range_map_succ (f : Nat → Rec) (n : Nat) : (List.range (n + 1)).map f = (List.range n).map f ++ [f n] := by rw [List.range_succ, List.map_append]; rfl
theorem fixes_chain (K : List ByteArray) {f : Nat → Rec} : ∀ n, (∀ i, i < n → valid (f i) 1 = 0 ∧ Words (f i)) → ∃ P, cat P = fixes f n ∧ recs P = (List.range n).map f ∧ Chain 1 K P K
  | 0, _ => ⟨[], rfl, rfl, .nil K⟩
  | n + 1, h => by
    obtain ⟨P, h1, h2, h3⟩ := fixes_chain K n fun i hi => h i (by omega)
    refine ⟨P ++ [⟨fix (f n), [f n]⟩], ?_, ?_, h3.append (.one (good1 K (h n (by omega)).1 (h n (by omega)).2))⟩
    · rw [cat_append, h1]
      show fixes f n ++ (fix (f n) ++ ByteArray.empty) = _
      rw [ByteArray.append_empty]; rfl
    · rw [recs_append, h2, range_map_succ]; rfl
theorem fixes_size (f : Nat → Rec) : ∀ n, (fixes f n).size = 186 * n
  | 0 => rfl
  | n + 1 => by show (fixes f n ++ fix (f n)).size = _; rw [ByteArray.size_append, fixes_size f n, fix_size]; omega
theorem frs_chain {K : List ByteArray} (hK : Keys K) {f : Nat → Rec} : ∀ n, K.length + n ≤ 1000000 → (∀ i, i < n → valid (f i) 2 = 0 ∧ Words (f i)) → ∃ P, cat P = (frs f K n).1 ∧ recs P = (List.range n).map f ∧ Chain 2 K P (frs f K n).2 ∧ Keys (frs f K n).2 ∧ (frs f K n).2.length ≤ K.length + n
  | 0, _, _ => ⟨[], rfl, rfl, .nil K, hK, Nat.le_refl _⟩
  | n + 1, hn, h => by
    obtain ⟨P, h1, h2, h3, h4, h5⟩ := frs_chain hK n (by omega) fun i hi => h i (by omega)
    obtain ⟨hv, hw⟩ := h n (by omega)
    have hm := (valid_may hv).1
    refine ⟨P ++ [⟨Fr.put (tell true (frs f K n).2 0 0 (f n)).1, [f n]⟩], ?_, ?_, h3.append (.one (good2 h4 hv hw (Nat.le_trans (tell_size hm) (by decide)))), tell_keys h4 (by omega) hm, ?_⟩
    · rw [cat_append, h1]
      show (frs f K n).1 ++ (Fr.put (tell true (frs f K n).2 0 0 (f n)).1 ++ ByteArray.empty) = _
      rw [ByteArray.append_empty]; rfl
    · rw [recs_append, h2, range_map_succ]; rfl
    · have := tell_len true (frs f K n).2 0 0 (f n)
      show (tell true (frs f K n).2 0 0 (f n)).2.length ≤ _
      omega
/-- changes that are put are pieces -/
theorem putR_chain {g : Int} {K : List ByteArray} (hK : Keys K) {f : Nat → Rec} {n : Nat} (hn : K.length + n ≤ 1000000) (hf : ∀ i, i < n → Words (f i)) (h : (putR g K f n).2.2 = 0) :
    (1 ≤ g ∧ g ≤ 3) ∧ ∃ P, cat P = (putR g K f n).1 ∧ recs P = (List.range n).map f ∧ Chain g K P (putR g K f n).2.1 ∧ Keys (putR g K f n).2.1 ∧ (putR g K f n).2.1.length ≤ K.length + n ∧
      (g = 3 → P.length = min n 1) ∧ (g = 1 → (putR g K f n).1.size = 186 * n) := by
  unfold putR at h ⊢
  by_cases hg : g < 1 ∨ 3 < g
  · rw [if_pos hg] at h; simp at h
  rw [if_neg hg] at h ⊢
  refine ⟨by omega, ?_⟩
  by_cases he : firstErr f g n ≠ 0
  · rw [if_pos he] at h; exact absurd h he
  rw [if_neg he] at h ⊢
  have hv := firstErr_ok.1 (Decidable.not_not.1 he)
  by_cases h1 : g = 1
  · subst h1
    rw [if_pos rfl]
    obtain ⟨P, q1, q2, q3⟩ := fixes_chain K n fun i hi => ⟨hv i hi, hf i hi⟩
    exact ⟨P, q1, q2, q3, hK, by show K.length ≤ _; omega, fun e => by omega, fun _ => fixes_size f n⟩
  rw [if_neg h1] at h ⊢
  by_cases h2 : g = 2
  · subst h2
    rw [if_pos rfl]
    obtain ⟨P, q1, q2, q3, q4, q5⟩ := frs_chain hK n hn fun i hi => ⟨hv i hi, hf i hi⟩
    exact ⟨P, q1, q2, q3, q4, q5, fun e => by omega, fun e => by omega⟩
  rw [if_neg h2] at h ⊢
  have h3 : g = 3 := by omega
  subst h3
  by_cases h0 : n = 0
  · subst h0
    rw [if_pos rfl]
    exact ⟨[], rfl, rfl, .nil K, hK, by show K.length ≤ _; omega, fun _ => rfl, fun e => by omega⟩
  rw [if_neg h0] at h ⊢
  by_cases hz : 20000 < (batch f K n).size
  · rw [if_pos hz] at h; simp at h
  rw [if_neg hz]
  have hgd := good3 hK (f := f) (n := n) (by omega) hn (fun i hi => ⟨hv i hi, hf i hi⟩) (by unfold batch at hz; omega)
  have hi := tells_inv hK n hn (fun i hi => ⟨(valid_may (hv i hi)).1, hf i hi⟩) n (Nat.le_refl _)
  refine ⟨[⟨Fr.put (batch f K n), (List.range n).map f⟩], ?_, ?_, .one hgd, hi.1, hi.2.1, fun _ => by show 1 = _; omega, fun e => by omega⟩
  · show Fr.put (batch f K n) ++ ByteArray.empty = _
    rw [ByteArray.append_empty]
  · show (List.range n).map f ++ [] = _
    rw [List.append_nil]
/-- a row of changes -/
structure Row where
  n : Nat
  f : Nat → Rec
def Row.list (r : Row) : List Rec := (List.range r.n).map r.f
theorem Row.list_length (r : Row) : r.list.length = r.n := by simp [Row.list]
/-- rows, one behind the other: bytes, and the keys -/
def rows (g : Int) (R : Nat → Row) : Nat → ByteArray × List ByteArray
  | 0 => (ByteArray.empty, [])
  | i + 1 => ((rows g R i).1 ++ (putR g (rows g R i).2 (R i).f (R i).n).1, (putR g (rows g R i).2 (R i).f (R i).n).2.1)
/-- all changes of rows -/
def join (R : Nat → Row) : Nat → List Rec
  | 0 => []
  | i + 1 => join R i ++ (R i).list
/-- no row of i has an error -/
def rowsOk (g : Int) (R : Nat → Row) (k : Nat) : Prop := ∀ i, i < k → (putR g (rows g R i).2 (R i).f (R i).n).2.2 = 0
/-- the pieces of rows -/
structure Pieces (g : Int) (R : Nat → Row) (k : Nat) (P : List Piece) (pi : Nat → Nat) : Prop where
  chain : Chain g [] P (rows g R k).2
  cat : cat P = (rows g R k).1
  recs : recs P = join R k
  upto : ∀ i, i ≤ k → pi i ≤ P.length ∧ Wa.cat (P.take (pi i)) = (rows g R i).1 ∧ Wa.recs (P.take (pi i)) = join R i
  top : pi k = P.length
  three : g = 3 → ∀ i, i < k → 0 < (R i).n → pi (i + 1) = pi i + 1
  keys : Keys (rows g R k).2
  few : (rows g R k).2.length ≤ (join R k).length
theorem pieces {g : Int} {R : Nat → Row} (hR : ∀ i j, j < (R i).n → Words ((R i).f j)) : ∀ k, (join R k).length ≤ 500000 → rowsOk g R k → ∃ P pi, Pieces g R k P pi
  | 0, _, _ => by
    refine ⟨[], fun _ => 0, .nil [], rfl, rfl, fun i hi => ?_, rfl, fun _ i hi => by omega, ⟨fun k hk => ?_, Nat.zero_le _⟩, Nat.le_refl _⟩
    · have : i = 0 := by omega
      subst this
      exact ⟨Nat.le_refl _, rfl, rfl⟩
    · have hk' : k ∈ ([] : List ByteArray) := hk
      cases hk'
  | k + 1, hl, hok => by
    have hjl : (join R (k + 1)).length = (join R k).length + (R k).n := by
      show (join R k ++ (R k).list).length = _
      rw [List.length_append, Row.list_length]
    obtain ⟨P, pi, h⟩ := pieces hR k (by omega) fun i hi => hok i (by omega)
    have hfew := h.few
    obtain ⟨hg, Q, q1, q2, q3, q4, q5, q6, -⟩ := putR_chain (g := g) h.keys (f := (R k).f) (n := (R k).n) (by omega) (hR k) (hok k (by omega))
    have hpk := h.upto k (Nat.le_refl _)
    refine ⟨P ++ Q, fun i => if i ≤ k then pi i else P.length + Q.length, h.chain.append q3, ?_, ?_, fun i hi => ?_, ?_, fun e i hi h0 => ?_, q4, by rw [hjl]; exact Nat.le_trans q5 (by omega)⟩
    · rw [cat_append, h.cat, q1]; rfl
    · rw [recs_append, h.recs, q2]; rfl
    · by_cases hik : i ≤ k
      · obtain ⟨p1, p2, p3⟩ := h.upto i hik
        simp only [if_pos hik]
        rw [List.take_append_of_le_length p1]
        exact ⟨by rw [List.length_append]; omega, p2, p3⟩
      · obtain rfl : i = k + 1 := by omega
        simp only [if_neg hik]
        rw [← List.length_append, List.take_length]
        exact ⟨Nat.le_refl _, by rw [cat_append, h.cat, q1]; rfl, by rw [recs_append, h.recs, q2]; rfl⟩
    · simp only [if_neg (show ¬ k + 1 ≤ k by omega), List.length_append]
    · by_cases hik : i < k
      · simp only [if_pos (show i + 1 ≤ k by omega), if_pos (show i ≤ k by omega)]
        exact h.three e i hik h0
      · obtain rfl : i = k := by omega
        simp only [if_neg (show ¬ i + 1 ≤ i by omega), if_pos (Nat.le_refl i)]
        have hq := q6 e
        rw [h.top, hq]; omega
end Wa
end Go.Proofs.Ytaillfnmaiiapaa
/-
  Changes as bytes, as mathematics: segments; what the laws ask.
-/
namespace Go.Proofs.Ytaillfnmaiiapaa
open Go.RowKit
namespace Wa
/-- what a segment tells -/
structure Sg where
  gen : Nat
  flags : Nat
  keys : List ByteArray
  recs : List Rec
  used : Nat
  torn : Bool
  err : Nat
def magic : ByteArray := ⟨#[65, 87, 65, 76]⟩
def noSg (e : Nat) : Sg := ⟨0, 0, [], [], 0, false, e⟩
def read (s : ByteArray) : Sg :=
  if (Fr.opened s magic).2.2.2 = 0 then
    match scanD ((Fr.opened s magic).1 : Nat) [] [] (Fr.opened s magic).2.2.1 with
    | none => noSg 9
    | some x => ⟨(Fr.opened s magic).1, (Fr.opened s magic).2.1, x.2.1, x.1, s.size - x.2.2.size, decide (x.2.2.size ≠ 0), 0⟩
  else noSg (Fr.opened s magic).2.2.2
def hd (g : Int) : ByteArray := Fr.head magic g 0
theorem hd_size (g : Int) : (hd g).size = 10 := by unfold hd; rw [Fr.head_size]; rfl
theorem opened_hd {g : Int} (hg : 1 ≤ g ∧ g ≤ 3) (r : ByteArray) : Fr.opened (hd g ++ r) magic = (g.toNat, 0, r, 0) := Fr.opened_head magic r g 0 hg (by omega)
theorem read_of {g : Int} (hg : 1 ≤ g ∧ g ≤ 3) {r : ByteArray} {L : List Rec} {K : List ByteArray} {q : ByteArray} (h : scanD g [] [] r = some (L, K, q)) : read (hd g ++ r) = ⟨g.toNat, 0, K, L, 10 + r.size - q.size, decide (q.size ≠ 0), 0⟩ := by
  have ho := opened_hd hg r
  have e : ((g.toNat : Nat) : Int) = g := by omega
  unfold read
  simp only [ho, e, h]
  rw [if_pos trivial, ByteArray.size_append, hd_size]
/-- whole rows -/
theorem read_rows {g : Int} (hg : 1 ≤ g ∧ g ≤ 3) {R : Nat → Row} {k : Nat} {P : List Piece} {pi : Nat → Nat} (h : Pieces g R k P pi) : read (hd g ++ (rows g R k).1) = ⟨g.toNat, 0, (rows g R k).2, join R k, 10 + (rows g R k).1.size, false, 0⟩ := by
  have hs := scan_all h.chain []
  rw [h.cat, h.recs, List.nil_append] at hs
  have := read_of hg hs
  rw [this]
  rfl
/-- .. and more behind them -/
theorem read_more {g : Int} (hg : 1 ≤ g ∧ g ≤ 3) {R : Nat → Row} {k : Nat} {P : List Piece} {pi : Nat → Nat} (h : Pieces g R k P pi) {f : Nat → Rec} {n : Nat} (hn : (rows g R k).2.length + n ≤ 1000000) (hf : ∀ i, i < n → Words (f i)) (h0 : (putR g (rows g R k).2 f n).2.2 = 0) :
    read ((hd g ++ (rows g R k).1) ++ (putR g (rows g R k).2 f n).1) = ⟨g.toNat, 0, (putR g (rows g R k).2 f n).2.1, join R k ++ (List.range n).map f, 10 + ((rows g R k).1.size + (putR g (rows g R k).2 f n).1.size), false, 0⟩ := by
  obtain ⟨-, Q, q1, q2, q3, -⟩ := putR_chain h.keys hn hf h0
  have hs := scan_all (h.chain.append q3) []
  rw [cat_append, recs_append, h.cat, h.recs, q1, q2, List.nil_append] at hs
  have := read_of hg hs
  rw [ByteArray.append_assoc, this, ByteArray.size_append]
  rfl
theorem recs_take {P : List Piece} {m n : Nat} (h : m ≤ n) : (recs (P.take n)) = recs (P.take m) ++ recs ((P.take n).drop m) := by
  have := (List.take_append_drop m (P.take n)).symm
  rw [List.take_take, show min m n = m from by omega] at this
  rw [← recs_append, ← this]
/-- rows that are cut -/
theorem read_cut {g : Int} (hg : 1 ≤ g ∧ g ≤ 3) {R : Nat → Row} {k : Nat} {P : List Piece} {pi : Nat → Nat} (h : Pieces g R k P pi) (c : Nat) (hc : c ≤ (rows g R k).1.size) :
    ∃ (K : List ByteArray) (m : Nat) (u : Nat), read (hd g ++ (rows g R k).1.extract 0 c) = ⟨g.toNat, 0, K, (join R k).take m, 10 + u, decide (u ≠ c), 0⟩ ∧ u ≤ c ∧ m ≤ (join R k).length ∧
      (∀ i, i ≤ k → (rows g R i).1.size ≤ c → (join R i).length ≤ m) ∧
      (g = 3 → ∀ i, i < k → c < (rows g R (i + 1)).1.size → 0 < (R i).n → m < (join R (i + 1)).length) ∧
      ∃ K2, read (hd g ++ (rows g R k).1.extract 0 u) = ⟨g.toNat, 0, K2, (join R k).take m, 10 + u, false, 0⟩ := by
  have hcat := h.cat
  have hc' : c ≤ (cat P).size := by rw [hcat]; exact hc
  obtain ⟨m, q, K1, h1, h2, h3, h4, h5⟩ := scan_cut h.chain c [] hc'
  have hz : (cat (P.take m)).size + q.size = c := by
    have := congrArg ByteArray.size h2
    rw [ByteArray.size_extract, ByteArray.size_append] at this
    omega
  have hpre : recs P = recs (P.take m) ++ recs (P.drop m) := by rw [← recs_append, List.take_append_drop]
  have htk : (join R k).take (recs (P.take m)).length = recs (P.take m) := by
    rw [← h.recs, hpre, List.take_left']
    rfl
  have hex : (rows g R k).1.extract 0 (cat (P.take m)).size = cat (P.take m) := by
    rw [← hcat]
    have : P = P.take m ++ P.drop m := (List.take_append_drop m P).symm
    rw [this, cat_append, List.take_left' (by rw [List.length_take]; omega)]
    exact Num.take_app _ _
  refine ⟨K1, (recs (P.take m)).length, (cat (P.take m)).size, ?_, by omega, by rw [← h.recs, hpre, List.length_append]; omega, fun i hi hic => ?_, fun e i hi hic h0 => ?_, ?_⟩
  · have hsz : ((rows g R k).1.extract 0 c).size = c := by rw [ByteArray.size_extract]; omega
    rw [hcat] at h3
    have := read_of hg h3
    rw [this, htk, List.nil_append, hsz, show 10 + c - q.size = 10 + (cat (P.take m)).size from by omega]
    have e : decide (q.size ≠ 0) = decide ((cat (P.take m)).size ≠ c) := by
      apply decide_eq_decide.2
      omega
    rw [e]
  · obtain ⟨p1, p2, p3⟩ := h.upto i hi
    have := cut_whole h1 h2 hc' h4 (j := pi i) (by rw [p2]; exact hic) p1
    rw [recs_take this, p3, List.length_append]
    omega
  · obtain ⟨p1, p2, p3⟩ := h.upto (i + 1) (by omega)
    obtain ⟨r1, r2, r3⟩ := h.upto i (by omega)
    have hm := cut_not h2 hc' (j := pi (i + 1)) (by rw [p2]; exact hic)
    have h8 := h.three e i hi h0
    have hle : m ≤ pi i := by omega
    have := recs_take (P := P) hle
    rw [r3] at this
    have hl := congrArg List.length this
    rw [List.length_append] at hl
    show _ < (join R i ++ (R i).list).length
    rw [List.length_append, Row.list_length]
    omega
  · obtain ⟨K2, hch⟩ := h.chain.take m
    have hs := scan_all hch []
    have := read_of hg hs
    refine ⟨K2, ?_⟩
    rw [hex, this, htk]
    rfl
theorem scan_left (g : Int) : ∀ (f : Nat) (K : List ByteArray) (L : List Rec) (s : ByteArray) x, s.size < f → scan g f K L s = some x → x.2.2.size ≤ s.size
  | 0, _, _, _, _, h, _ => by omega
  | f + 1, K, L, s, x, hf, h => by
    unfold scan at h
    split at h
    · cases h; exact Nat.le_refl _
    · split at h
      · cases h; exact Nat.le_refl _
      · rename_i h1
        split at h
        · cases h
        · rename_i h3
          have hs := take_shape g K s
          have hl := take_less g K s (by omega)
          have := scan_left g f _ _ _ x (by omega) h
          omega
theorem opened_more (s : ByteArray) (h : (Fr.opened s magic).2.2.2 = 0) : (Fr.opened s magic).2.2.1.size + 10 = s.size ∧ (Fr.opened s magic).2.1 ≤ 3 := by
  have hm : magic.size = 4 := rfl
  unfold Fr.opened at h ⊢
  split at h
  · simp at h
  split at h
  · simp at h
  split at h
  · simp at h
  split at h
  · simp at h
  split at h
  · simp at h
  rename_i h1 h2 h3 h4 h5
  rw [if_neg h1, if_neg h2, if_neg h3, if_neg h4, if_neg h5]
  dsimp only
  rw [ByteArray.size_extract]
  omega
/-- what is told of any bytes -/
theorem read_any (s : ByteArray) : ((read s).err = 0 ∧ (1 ≤ (read s).gen ∧ (read s).gen ≤ 3) ∧ 10 ≤ (read s).used ∧ (read s).used ≤ s.size ∧ (read s).flags ≤ 3) ∨ read s = noSg 9 ∨ read s = noSg 10 := by
  unfold read
  by_cases h : (Fr.opened s magic).2.2.2 = 0
  · rw [if_pos h]
    obtain ⟨h1, h2⟩ := opened_more s h
    have hg := Fr.opened_gen s magic h
    split
    · exact Or.inr (Or.inl rfl)
    · rename_i x hx
      have := scan_left _ _ _ _ _ x (Nat.lt_succ_self _) hx
      left
      dsimp only
      omega
  · rw [if_neg h]
    rcases Fr.opened_cases s magic with h1 | h1 | h1
    · exact absurd h1 h
    · rw [h1]; exact Or.inr (Or.inl rfl)
    · rw [h1]; exact Or.inr (Or.inr rfl)
/-- no changes -/
theorem putR_nothing (g : Int) (K : List ByteArray) (f : Nat → Rec) : putR g K f 0 = (ByteArray.empty, K, if 1 ≤ g ∧ g ≤ 3 then 0 else 1) := by
  unfold putR
  by_cases hg : g < 1 ∨ 3 < g
  · rw [if_pos hg, if_neg (by omega)]
  · rw [if_neg hg, if_pos (show 1 ≤ g ∧ g ≤ 3 by omega), if_neg (by show ¬ (0 : Int) ≠ 0; omega)]
    split
    · rfl
    · split
      · rfl
      · rfl
/-- an error leaves all -/
theorem putR_no {g : Int} {K : List ByteArray} {f : Nat → Rec} {n : Nat} (h : (putR g K f n).2.2 ≠ 0) : (putR g K f n).1 = ByteArray.empty ∧ (putR g K f n).2.1 = K := by
  unfold putR at h ⊢
  repeat' split
  all_goals first | exact ⟨rfl, rfl⟩ | (exfalso; simp_all)
theorem ser_grow (K : List ByteArray) (l : List Lab) : K.length ≤ (ser K l).2.length := by
  unfold ser
  split
  · exact Nat.le_refl _
  · rw [List.length_append]; omega
theorem tell_grow (two : Bool) (K : List ByteArray) (t : Int) (v : Nat) (r : Rec) : K.length ≤ (tell two K t v r).2.length := by
  unfold tell
  split
  · exact ser_grow K r.l
  · split
    · exact ser_grow K r.l
    · exact Nat.le_refl _
theorem frs_grow (f : Nat → Rec) (K : List ByteArray) : ∀ n, K.length ≤ (frs f K n).2.length
  | 0 => Nat.le_refl _
  | n + 1 => Nat.le_trans (frs_grow f K n) (tell_grow _ _ _ _ _)
theorem tells_grow (f : Nat → Rec) (K : List ByteArray) : ∀ n, K.length ≤ (tells f K n).2.1.length
  | 0 => Nat.le_refl _
  | n + 1 => Nat.le_trans (tells_grow f K n) (tell_grow _ _ _ _ _)
/-- keys never go -/
theorem putR_grow (g : Int) (K : List ByteArray) (f : Nat → Rec) (n : Nat) : K.length ≤ (putR g K f n).2.1.length := by
  unfold putR
  repeat' split
  all_goals first | exact Nat.le_refl _ | exact frs_grow f K n | exact tells_grow f K n
/-- of changes that may be, all that may be wrong is that they are too many -/
theorem putR_many {g : Int} (hg : 1 ≤ g ∧ g ≤ 3) (K : List ByteArray) {f : Nat → Rec} {n : Nat} (h : ∀ i, i < n → valid (f i) g = 0) : (putR g K f n).2.2 = 0 ∨ (putR g K f n).2.2 = 7 := by
  unfold putR
  rw [if_neg (by omega), if_neg (by rw [firstErr_ok.2 h]; simp)]
  repeat' split
  all_goals first | exact Or.inl rfl | exact Or.inr rfl
theorem putR_valid {g : Int} {K : List ByteArray} {f : Nat → Rec} {n : Nat} (h : (putR g K f n).2.2 = 0) : ∀ i, i < n → valid (f i) g = 0 := by
  unfold putR at h
  split at h
  · simp at h
  · split at h
    · rename_i h1; exact absurd h h1
    · rename_i h1
      exact firstErr_ok.1 (Decidable.not_not.1 h1)
/-- all changes of rows that were put may be -/
theorem join_valid {g : Int} {R : Nat → Row} : ∀ k, rowsOk g R k → ∀ x ∈ join R k, valid x g = 0
  | 0, _, x, hx => by cases hx
  | k + 1, h, x, hx => by
    rcases List.mem_append.1 hx with h1 | h1
    · exact join_valid k (fun i hi => h i (by omega)) x h1
    · obtain ⟨i, hi, rfl⟩ := List.mem_map.1 h1
      exact putR_valid (h k (by omega)) i (List.mem_range.1 hi)
/-- one row of generation 1 has 186 bytes for each change -/
theorem rows_one {g : Int} (hg : g = 1) {R : Nat → Row} (hR : ∀ i j, j < (R i).n → Words ((R i).f j)) (hn : (R 0).n ≤ 500000) (h : rowsOk g R 1) : (rows g R 1).1.size = 186 * (R 0).n := by
  have := putR_chain (g := g) (K := []) ⟨fun k hk => (by cases hk), Nat.zero_le _⟩ (f := (R 0).f) (n := (R 0).n) (by show 0 + _ ≤ _; omega) (hR 0) (h 0 (by omega))
  obtain ⟨-, P, -, -, -, -, -, -, h7⟩ := this
  show (ByteArray.empty ++ (putR g [] (R 0).f (R 0).n).1).size = _
  rw [ByteArray.empty_append, h7 hg]
end Wa
end Go.Proofs.Ytaillfnmaiiapaa
/-
  What the functions of package wal come to: whether a change may be.
-/
namespace Go.Proofs.Ytaillfnmaiiapaa
open Go.RowKit
set_option maxRecDepth 100000 in
theorem wTime_any (t : Int) (w : World) :
    Calls Try.prog 33 #[.int .i64 t] w fun e w' => e = .returned (.bool (Wa.isT t)) ∧ w' = w := by
  have hr : Wa.isT t = (decide (0 ≤ t) && decide (t ≤ 1125899906842624)) := by unfold Wa.isT; rw [Bool.eq_iff_iff]; simp
  by_cases h1 : 0 ≤ t
  · have d1 : decide (0 ≤ t) = true := decide_eq_true h1
    rw [d1, Bool.true_and] at hr
    have HR := Lib.hid hr; clear hr
    go_enter Try.func33, Try.ntmps33
    go_wp2_with fail
    go_ret
    exact ⟨by rw [HR.out]; rfl, rfl⟩
  · have d1 : decide (0 ≤ t) = false := decide_eq_false h1
    rw [d1, Bool.false_and] at hr
    have HR := Lib.hid hr; clear hr
    go_enter Try.func33, Try.ntmps33
    go_wp2_with fail
    go_ret
    exact ⟨by rw [HR.out]; rfl, rfl⟩
def Wa.isG (g : Int) : Bool := decide (1 ≤ g ∧ g ≤ 3)
set_option maxRecDepth 100000 in
theorem wGen_any (g : Int) (w : World) :
    Calls Try.prog 24 #[.int .i64 g] w fun e w' => e = .returned (.bool (Wa.isG g)) ∧ w' = w := by
  have hr : Wa.isG g = (decide (1 ≤ g) && decide (g ≤ 3)) := by unfold Wa.isG; rw [Bool.eq_iff_iff]; simp
  by_cases h1 : 1 ≤ g
  · have d1 : decide (1 ≤ g) = true := decide_eq_true h1
    rw [d1, Bool.true_and] at hr
    have HR := Lib.hid hr; clear hr
    go_enter Try.func24, Try.ntmps24
    go_wp2_with fail
    go_ret
    exact ⟨by rw [HR.out]; rfl, rfl⟩
  · have d1 : decide (1 ≤ g) = false := decide_eq_false h1
    rw [d1, Bool.false_and] at hr
    have HR := Lib.hid hr; clear hr
    go_enter Try.func24, Try.ntmps24
    go_wp2_with fail
    go_ret
    exact ⟨by rw [HR.out]; rfl, rfl⟩
/-- a change in a world: its labels lie there -/
structure RecIn (w : World) (A : Option Addr) (r : Wa.Rec) : Prop where
  row : LabRow w A r.l.length (La.at_ r.l)
  len : r.l.length ≤ 10
  small : ∀ i, i < r.l.length → (La.at_ r.l i).1.size ≤ 300 ∧ (La.at_ r.l i).2.size ≤ 300
  words : Wa.Words r
theorem RecIn.later {w w2 : World} {A : Option Addr} {r : Wa.Rec} (h : RecIn w A r) (hb : Below w.heap.size w w2) : RecIn w2 A r := ⟨h.row.later hb, h.len, h.small, h.words⟩
/-- .. its cells -/
def recC (r : Wa.Rec) (A : Option Addr) (c : Nat) : Array Value := #[.int .i64 r.kind, .slice A r.l.length c, .int .i64 r.t, .int .i64 r.hi, .int .u64 (r.v : Int)]
theorem RecIn.check {w : World} {A : Option Addr} {r : Wa.Rec} (h : RecIn w A r) (c : Nat) : ∀ W, Below w.heap.size w W →
    Calls Try.prog 32 #[.slice A r.l.length c] W fun e w' => e = .returned (.int .i64 ((La.err (La.rightL r.l) : Nat) : Int)) ∧ Below W.heap.size W w' :=
  fun W hW => Check_any A r.l.length c (by have := h.len; unfold maxLen; omega) (La.at_ r.l) (fun i hi => by have := h.small i hi; unfold maxLen; omega) W (h.later hW).row
theorem RecIn.longest {w : World} {A : Option Addr} {r : Wa.Rec} (h : RecIn w A r) (c : Nat) : ∀ W, Below w.heap.size w W →
    Calls Try.prog 34 #[.slice A r.l.length c] W fun e w' => e = .returned (.int .i64 ((Wa.long r : Nat) : Int)) ∧ Below W.heap.size W w' :=
  fun W hW => Longest_any A r.l.length c (by have := h.len; unfold maxLen; omega) (La.at_ r.l) (fun i hi => by have := h.small i hi; unfold maxLen; omega) W (h.later hW).row
theorem Wa.u64_zero (v : Nat) : decide ((v : Int) = 0) = decide (v = 0) := decide_eq_decide.2 (by omega)
set_option maxRecDepth 100000 in
set_option maxHeartbeats 2000000 in
theorem Valid0 (r : Wa.Rec) (hk : r.kind = 0) (A : Option Addr) (c : Nat) (g : Int) (w : World) (h : RecIn w A r) :
    Calls Try.prog 28 #[.agg (recC r A c), .int .i64 g] w fun e w' => e = .returned (.int .i64 (Wa.valid r g)) ∧ Below w.heap.size w w' := by
  obtain ⟨wa, hwa⟩ : ∃ wa, wa = w.alloc (.cells (recC r A c) 52) := ⟨_, rfl⟩
  have hb1 : Below w.heap.size w wa := by rw [hwa]; exact (Below.refl _ _).alloc (Nat.le_refl _) _
  have hx1 : wa.heap[w.heap.size]? = some (.cells (recC r A c) 52 (0, 0)) := by rw [hwa]; exact heap_alloc_new w _
  have hC := h.check c; have hL := h.longest c
  have hm : Wa.may r = (La.rightL r.l && Wa.isT r.t && decide (r.hi = 0)) := by unfold Wa.may; rw [if_pos hk]
  have hv : Wa.valid r g = if Wa.may r = false then 1 else if La.limit g < Wa.long r then 3 else 0 := rfl
  have hT := fun W => wTime_any r.t W
  obtain ⟨kind, l, t, hi, v⟩ := r
  obtain rfl : kind = 0 := hk
  unfold recC at hx1 hwa ⊢
  simp only at hx1 hwa hm hv ⊢ hC hL hT
  have HLI := Lib.hid (fun W => Limit_any g W)
  have z0 : wa.cell? ⟨w.heap.size, 0, none⟩ = some (.int .i64 0) := cell_of_row _ _ _ _ _ _ hx1
  have z1 : wa.cell? ⟨w.heap.size, 1, none⟩ = some (.slice A l.length c) := cell_of_row _ _ _ _ _ _ hx1
  have HX1 := Lib.hid hx1
  have HB1 := Lib.hid hb1; have HL := Lib.hid hL; have HT := Lib.hid hT; have HC := Lib.hid hC
  rw [hm] at hv
  generalize Wa.long ⟨0, l, t, hi, v⟩ = lo at *
  generalize Wa.valid ⟨0, l, t, hi, v⟩ g = er at *
  generalize Wa.isT t = bt at *
  generalize La.rightL l = br at *
  have HV := Lib.hid hv
  clear hC hL hm hv hT h hb1 hx1
  go_enter Try.func28, Try.ntmps28
  go_wp2_with fail
  rw [← hwa]
  clear hwa
  go_wp2_with fail
  refine (HC.out wa HB1.out).mono ?_; rintro e w1 ⟨rfl, hb2⟩
  have HB2 := Lib.hid (below_step HB1.out hb2)
  have hx2 := heap_keep HX1.out hb2
  have HX2 := Lib.hid hx2
  clear hb2 z0 z1
  have y1 : w1.cell? ⟨w.heap.size, 1, none⟩ = some (.slice A l.length c) := cell_of_row _ _ _ _ _ _ hx2
  have y2 : w1.cell? ⟨w.heap.size, 2, none⟩ = some (.int .i64 t) := cell_of_row _ _ _ _ _ _ hx2
  have y3 : w1.cell? ⟨w.heap.size, 3, none⟩ = some (.int .i64 hi) := cell_of_row _ _ _ _ _ _ hx2
  clear hx2
  cases br
  · go_wp2_with fail
    go_ret
    exact ⟨by rw [HV.out]; rfl, HB2.out⟩
  · go_wp2_with fail
    refine (HT.out w1).mono ?_; rintro e w2 ⟨rfl, rfl⟩
    cases bt
    · go_wp2_with fail
      go_ret
      exact ⟨by rw [HV.out]; rfl, HB2.out⟩
    · by_cases hh : hi = 0
      · have d3 : decide (hi = 0) = true := decide_eq_true hh
        rw [d3] at HV
        go_wp2_with fail
        refine (HL.out w2 HB2.out).mono ?_; rintro e w3 ⟨rfl, hb3⟩
        have HB3 := Lib.hid (below_step HB2.out hb3)
        clear hb3 y1 y2 y3
        go_wp2_with fail
        refine (HLI.out w3).mono ?_; rintro e w4 ⟨rfl, rfl⟩
        by_cases hl : La.limit g < lo
        · have d4 : decide (((La.limit g : Nat) : Int) < (lo : Int)) = true := decide_eq_true (by omega)
          go_wp2_with fail
          go_ret
          exact ⟨by rw [HV.out, if_neg (by decide), if_pos hl]; rfl, HB3.out⟩
        · have d4 : decide (((La.limit g : Nat) : Int) < (lo : Int)) = false := decide_eq_false (by omega)
          go_wp2_with fail
          go_ret
          exact ⟨by rw [HV.out, if_neg (by decide), if_neg hl]; rfl, HB3.out⟩
      · have d3 : decide (hi = 0) = false := decide_eq_false hh
        rw [d3] at HV
        have d5 : (hi == 0) = false := beq_eq_false_iff_ne.2 hh
        go_wp2_with fail
        go_ret
        exact ⟨by rw [HV.out]; rfl, HB2.out⟩
-- a change of kind 1
set_option maxRecDepth 100000 in
set_option maxHeartbeats 2000000 in
theorem Valid1 (r : Wa.Rec) (hk : r.kind = 1) (A : Option Addr) (c : Nat) (g : Int) (w : World) (h : RecIn w A r) :
    Calls Try.prog 28 #[.agg (recC r A c), .int .i64 g] w fun e w' => e = .returned (.int .i64 (Wa.valid r g)) ∧ Below w.heap.size w w' := by
  obtain ⟨wa, hwa⟩ : ∃ wa, wa = w.alloc (.cells (recC r A c) 52) := ⟨_, rfl⟩
  have hb1 : Below w.heap.size w wa := by rw [hwa]; exact (Below.refl _ _).alloc (Nat.le_refl _) _
  have hx1 : wa.heap[w.heap.size]? = some (.cells (recC r A c) 52 (0, 0)) := by rw [hwa]; exact heap_alloc_new w _
  have hC := h.check c; have hL := h.longest c
  have hm : Wa.may r = (La.rightL r.l && decide (r.t ≤ r.hi) && decide (r.v = 0)) := by
    unfold Wa.may
    rw [if_neg (by rw [hk]; decide), if_pos hk]
  have hv : Wa.valid r g = if Wa.may r = false then 1 else if La.limit g < Wa.long r then 3 else 0 := rfl
  have hT := fun W => wTime_any r.t W
  have hln := h.len
  obtain ⟨kind, l, t, hi, v⟩ := r
  obtain rfl : kind = 1 := hk
  unfold recC at hx1 hwa ⊢
  simp only at hx1 hwa hm hv ⊢ hC hL hT hln
  have HLI := Lib.hid (fun W => Limit_any g W)
  have z0 : wa.cell? ⟨w.heap.size, 0, none⟩ = some (.int .i64 1) := cell_of_row _ _ _ _ _ _ hx1
  have z1 : wa.cell? ⟨w.heap.size, 1, none⟩ = some (.slice A l.length c) := cell_of_row _ _ _ _ _ _ hx1
  have HX1 := Lib.hid hx1
  have HB1 := Lib.hid hb1; have HL := Lib.hid hL; have HT := Lib.hid hT; have HC := Lib.hid hC
  rw [hm] at hv
  generalize Wa.long ⟨1, l, t, hi, v⟩ = lo at *
  generalize Wa.valid ⟨1, l, t, hi, v⟩ g = er at *
  generalize Wa.isT t = bt at *
  generalize La.rightL l = br at *
  have HV := Lib.hid hv
  clear hC hL hm hv hT h hb1 hx1
  go_enter Try.func28, Try.ntmps28
  go_wp2_with fail
  rw [← hwa]
  clear hwa
  go_wp2_with fail
  refine (HC.out wa HB1.out).mono ?_; rintro e w1 ⟨rfl, hb2⟩
  have HB2 := Lib.hid (below_step HB1.out hb2)
  have hx2 := heap_keep HX1.out hb2
  have HX2 := Lib.hid hx2
  clear hb2 z0 z1
  have y1 : w1.cell? ⟨w.heap.size, 1, none⟩ = some (.slice A l.length c) := cell_of_row _ _ _ _ _ _ hx2
  have y2 : w1.cell? ⟨w.heap.size, 2, none⟩ = some (.int .i64 t) := cell_of_row _ _ _ _ _ _ hx2
  have y3 : w1.cell? ⟨w.heap.size, 3, none⟩ = some (.int .i64 hi) := cell_of_row _ _ _ _ _ _ hx2
  have y4 : w1.cell? ⟨w.heap.size, 4, none⟩ = some (.int .u64 (v : Int)) := cell_of_row _ _ _ _ _ _ hx2
  clear hx2
  cases br
  · go_wp2_with fail
    go_ret
    exact ⟨by rw [HV.out]; rfl, HB2.out⟩
  · by_cases ht : t ≤ hi
    · have d3 : decide (t ≤ hi) = true := decide_eq_true ht
      rw [d3] at HV
      by_cases hv0 : v = 0
      · have d6 : decide (v = 0) = true := decide_eq_true hv0
        rw [d6] at HV
        subst hv0
        go_wp2_with fail
        refine (HL.out w1 HB2.out).mono ?_; rintro e w8 ⟨rfl, hb8⟩
        have HB8 := Lib.hid (below_step HB2.out hb8)
        clear hb8 y1 y2 y3 y4
        go_wp2_with fail
        refine (HLI.out w8).mono ?_; rintro e w9 ⟨rfl, rfl⟩
        by_cases hl : La.limit g < lo
        · have d4 : decide (((La.limit g : Nat) : Int) < (lo : Int)) = true := decide_eq_true (by omega)
          go_wp2_with fail
          go_ret
          exact ⟨by rw [HV.out, if_neg (by decide), if_pos hl]; rfl, HB8.out⟩
        · have d4 : decide (((La.limit g : Nat) : Int) < (lo : Int)) = false := decide_eq_false (by omega)
          go_wp2_with fail
          go_ret
          exact ⟨by rw [HV.out, if_neg (by decide), if_neg hl]; rfl, HB8.out⟩
      · have d6 : decide (v = 0) = false := decide_eq_false hv0
        rw [d6] at HV
        have d7 : ((v : Int) == 0) = false := beq_eq_false_iff_ne.2 (by omega)
        go_wp2_with fail
        go_ret
        exact ⟨by rw [HV.out]; rfl, HB2.out⟩
    · have d3 : decide (t ≤ hi) = false := decide_eq_false ht
      rw [d3] at HV
      go_wp2_with fail
      go_ret
      exact ⟨by rw [HV.out]; rfl, HB2.out⟩
-- a change of kind 2
set_option maxRecDepth 100000 in
set_option maxHeartbeats 2000000 in
theorem Valid2 (r : Wa.Rec) (hk : r.kind = 2) (A : Option Addr) (c : Nat) (g : Int) (w : World) (h : RecIn w A r) :
    Calls Try.prog 28 #[.agg (recC r A c), .int .i64 g] w fun e w' => e = .returned (.int .i64 (Wa.valid r g)) ∧ Below w.heap.size w w' := by
  obtain ⟨wa, hwa⟩ : ∃ wa, wa = w.alloc (.cells (recC r A c) 52) := ⟨_, rfl⟩
  have hb1 : Below w.heap.size w wa := by rw [hwa]; exact (Below.refl _ _).alloc (Nat.le_refl _) _
  have hx1 : wa.heap[w.heap.size]? = some (.cells (recC r A c) 52 (0, 0)) := by rw [hwa]; exact heap_alloc_new w _
  have hC := h.check c; have hL := h.longest c
  have hm : Wa.may r = (decide (r.l.length = 0) && Wa.isT r.t && decide (r.hi = 0) && decide (r.v = 0)) := by
    unfold Wa.may
    rw [if_neg (by rw [hk]; decide), if_neg (by rw [hk]; decide), if_pos hk]
    congr 3
    exact decide_eq_decide.2 List.length_eq_zero_iff.symm
  have hv : Wa.valid r g = if Wa.may r = false then 1 else if La.limit g < Wa.long r then 3 else 0 := rfl
  have hT := fun W => wTime_any r.t W
  have hln := h.len
  obtain ⟨kind, l, t, hi, v⟩ := r
  obtain rfl : kind = 2 := hk
  unfold recC at hx1 hwa ⊢
  simp only at hx1 hwa hm hv ⊢ hC hL hT hln
  have HLI := Lib.hid (fun W => Limit_any g W)
  have z0 : wa.cell? ⟨w.heap.size, 0, none⟩ = some (.int .i64 2) := cell_of_row _ _ _ _ _ _ hx1
  have z1 : wa.cell? ⟨w.heap.size, 1, none⟩ = some (.slice A l.length c) := cell_of_row _ _ _ _ _ _ hx1
  have y2 : wa.cell? ⟨w.heap.size, 2, none⟩ = some (.int .i64 t) := cell_of_row _ _ _ _ _ _ hx1
  have y3 : wa.cell? ⟨w.heap.size, 3, none⟩ = some (.int .i64 hi) := cell_of_row _ _ _ _ _ _ hx1
  have y4 : wa.cell? ⟨w.heap.size, 4, none⟩ = some (.int .u64 (v : Int)) := cell_of_row _ _ _ _ _ _ hx1
  have HX1 := Lib.hid hx1
  have HB1 := Lib.hid hb1; have HL := Lib.hid hL; have HT := Lib.hid hT; have HC := Lib.hid hC
  rw [hm] at hv
  generalize Wa.long ⟨2, l, t, hi, v⟩ = lo at *
  generalize Wa.valid ⟨2, l, t, hi, v⟩ g = er at *
  generalize Wa.isT t = bt at *
  generalize La.rightL l = br at *
  have HV := Lib.hid hv
  clear hC hL hm hv hT h hb1 hx1
  generalize l.length = n at *
  by_cases h0 : n = 0
  · have d0 : decide (n = 0) = true := decide_eq_true h0
    rw [d0] at HV
    subst h0
    go_enter Try.func28, Try.ntmps28
    go_wp2_with fail
    rw [← hwa]
    clear hwa
    go_wp2_with fail
    refine (HT.out wa).mono ?_; rintro e w2 ⟨rfl, rfl⟩
    cases bt
    · go_wp2_with fail
      go_ret
      exact ⟨by rw [HV.out]; rfl, HB1.out⟩
    · by_cases hh : hi = 0
      · have d3 : decide (hi = 0) = true := decide_eq_true hh
        rw [d3] at HV
        subst hh
        by_cases hv0 : v = 0
        · have d6 : decide (v = 0) = true := decide_eq_true hv0
          rw [d6] at HV
          subst hv0
          go_wp2_with fail
          refine (HL.out w2 HB1.out).mono ?_; rintro e w8 ⟨rfl, hb8⟩
          have HB8 := Lib.hid (below_step HB1.out hb8)
          clear hb8 z0 z1 y2 y3 y4
          go_wp2_with fail
          refine (HLI.out w8).mono ?_; rintro e w9 ⟨rfl, rfl⟩
          by_cases hl : La.limit g < lo
          · have d4 : decide (((La.limit g : Nat) : Int) < (lo : Int)) = true := decide_eq_true (by omega)
            go_wp2_with fail
            go_ret
            exact ⟨by rw [HV.out, if_neg (by decide), if_pos hl]; rfl, HB8.out⟩
          · have d4 : decide (((La.limit g : Nat) : Int) < (lo : Int)) = false := decide_eq_false (by omega)
            go_wp2_with fail
            go_ret
            exact ⟨by rw [HV.out, if_neg (by decide), if_neg hl]; rfl, HB8.out⟩
        · have d6 : decide (v = 0) = false := decide_eq_false hv0
          rw [d6] at HV
          have d7 : ((v : Int) == 0) = false := beq_eq_false_iff_ne.2 (by omega)
          go_wp2_with fail
          go_ret
          exact ⟨by rw [HV.out]; rfl, HB1.out⟩
      · have d3 : decide (hi = 0) = false := decide_eq_false hh
        rw [d3] at HV
        have d5 : (hi == 0) = false := beq_eq_false_iff_ne.2 hh
        go_wp2_with fail
        go_ret
        exact ⟨by rw [HV.out]; rfl, HB1.out⟩
  · have d0 : decide (n = 0) = false := decide_eq_false h0
    rw [d0] at HV
    have d5 : ((n : Int) == 0) = false := beq_eq_false_iff_ne.2 (by omega)
    go_enter Try.func28, Try.ntmps28
    go_wp2_with fail
    rw [← hwa]
    clear hwa
    go_wp2_with fail
    go_ret
    exact ⟨by rw [HV.out]; rfl, HB1.out⟩
-- a change of no kind
set_option maxRecDepth 100000 in
set_option maxHeartbeats 2000000 in
theorem ValidN (r : Wa.Rec) (hk0 : r.kind ≠ 0) (hk1 : r.kind ≠ 1) (hk2 : r.kind ≠ 2) (A : Option Addr) (c : Nat) (g : Int) (w : World) (h : RecIn w A r) :
    Calls Try.prog 28 #[.agg (recC r A c), .int .i64 g] w fun e w' => e = .returned (.int .i64 (Wa.valid r g)) ∧ Below w.heap.size w w' := by
  obtain ⟨wa, hwa⟩ : ∃ wa, wa = w.alloc (.cells (recC r A c) 52) := ⟨_, rfl⟩
  have hb1 : Below w.heap.size w wa := by rw [hwa]; exact (Below.refl _ _).alloc (Nat.le_refl _) _
  have hx1 : wa.heap[w.heap.size]? = some (.cells (recC r A c) 52 (0, 0)) := by rw [hwa]; exact heap_alloc_new w _
  have hC := h.check c; have hL := h.longest c
  have hm : Wa.may r = (false) := by
    unfold Wa.may
    rw [if_neg hk0, if_neg hk1, if_neg hk2]
  have hv : Wa.valid r g = if Wa.may r = false then 1 else if La.limit g < Wa.long r then 3 else 0 := rfl
  have hT := fun W => wTime_any r.t W
  have hln := h.len
  obtain ⟨kind, l, t, hi, v⟩ := r
  simp only at hk0 hk1 hk2
  unfold recC at hx1 hwa ⊢
  simp only at hx1 hwa hm hv ⊢ hC hL hT hln
  have HLI := Lib.hid (fun W => Limit_any g W)
  have z0 : wa.cell? ⟨w.heap.size, 0, none⟩ = some (.int .i64 kind) := cell_of_row _ _ _ _ _ _ hx1
  have z1 : wa.cell? ⟨w.heap.size, 1, none⟩ = some (.slice A l.length c) := cell_of_row _ _ _ _ _ _ hx1
  have HX1 := Lib.hid hx1
  have HB1 := Lib.hid hb1; have HL := Lib.hid hL; have HT := Lib.hid hT; have HC := Lib.hid hC
  rw [hm] at hv
  generalize Wa.long ⟨kind, l, t, hi, v⟩ = lo at *
  generalize Wa.valid ⟨kind, l, t, hi, v⟩ g = er at *
  generalize Wa.isT t = bt at *
  generalize La.rightL l = br at *
  have HV := Lib.hid hv
  clear hC hL hm hv hT h hb1 hx1
  have e0 : (kind == 0) = false := beq_eq_false_iff_ne.2 hk0
  have e1 : (kind == 1) = false := beq_eq_false_iff_ne.2 hk1
  have e2 : (kind == 2) = false := beq_eq_false_iff_ne.2 hk2
  go_enter Try.func28, Try.ntmps28
  go_wp2_with fail
  rw [← hwa]
  clear hwa
  go_wp2_with fail
  go_ret
  exact ⟨by rw [HV.out]; rfl, HB1.out⟩
/-- whether a change may be -/
theorem WValid_any (r : Wa.Rec) (A : Option Addr) (c : Nat) (g : Int) (w : World) (h : RecIn w A r) :
    Calls Try.prog 28 #[.agg (recC r A c), .int .i64 g] w fun e w' => e = .returned (.int .i64 (Wa.valid r g)) ∧ Below w.heap.size w w' := by
  by_cases h0 : r.kind = 0
  · exact Valid0 r h0 A c g w h
  by_cases h1 : r.kind = 1
  · exact Valid1 r h1 A c g w h
  by_cases h2 : r.kind = 2
  · exact Valid2 r h2 A c g w h
  exact ValidN r h0 h1 h2 A c g w h
end Go.Proofs.Ytaillfnmaiiapaa
