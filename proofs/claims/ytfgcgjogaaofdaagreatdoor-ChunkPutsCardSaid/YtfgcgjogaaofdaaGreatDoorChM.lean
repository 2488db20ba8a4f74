/-
  The mathematics of package chunk: samples as bytes, and what bytes tell.
-/
import Derived.Test.YtfgcgjogaaofdaaGreatDoorChS
import Derived.Test.YtfgcgjogaaofdaaGreatDoorFrM
import Derived.Test.YtfgcgjogaaofdaaGreatDoorStP
import Derived.Test.YtfgcgjogaaofdaaGreatDoorVaI
namespace Go.Proofs.YtfgcgjogaaofdaaGreatDoor
open Go.RowKit
namespace Ch
/-- samples of times and values -/
def sm (t : Nat → Int) (v : Nat → Nat) : Nat → Sam := fun i => ⟨t i, (v i : Int)⟩
/-- a time without its sign -/
def u (t : Int) : Nat := (t % 18446744073709551616).toNat
theorem u_lt (t : Int) : u t < 18446744073709551616 := by unfold u; omega
theorem w_u (t : Int) (h : St.inR t) : wrap64 (u t : Int) = t := by unfold St.inR at h; unfold u wrap64; omega
/-- a number, wide or small -/
def one (wide : Bool) (n : Nat) : ByteArray := if wide = true then Num.wideB n else Num.smallB n
theorem one_size (wide : Bool) (n : Nat) : 1 ≤ (one wide n).size ∧ (one wide n).size ≤ 10 := by
  unfold one
  split
  · rw [Num.wideB_size]; omega
  · exact ⟨Num.small_pos n, Fr.small_le n⟩
/-- the m of them from k on, one behind the other -/
def cat (g : Nat → ByteArray) : Nat → Nat → ByteArray
  | _, 0 => ByteArray.empty
  | k, m + 1 => g k ++ cat g (k + 1) m
theorem cat_snoc (g : Nat → ByteArray) : ∀ m k, cat g k (m + 1) = cat g k m ++ g (k + m)
  | 0, k => by simp [cat]
  | m + 1, k => by
    rw [cat, cat_snoc g m (k + 1), cat, ByteArray.append_assoc]
    congr 3
    omega
theorem cat_size (g : Nat → ByteArray) (a b : Nat) (h : ∀ i, a ≤ (g i).size ∧ (g i).size ≤ b) : ∀ m k, a * m ≤ (cat g k m).size ∧ (cat g k m).size ≤ b * m
  | 0, k => by simp [cat]
  | m + 1, k => by
    have h1 := cat_size g a b h m (k + 1)
    have h2 := h k
    rw [cat, ByteArray.size_append, Nat.mul_succ, Nat.mul_succ]; omega
def last (t : Nat → Int) (i : Nat) : Int := if i = 0 then 0 else t (i - 1)
/-- a sample of generation 1, and of generation 2 -/
def one1 (t : Nat → Int) (v : Nat → Nat) (i : Nat) : ByteArray := Num.wideB (u (t i)) ++ Num.wideB (v i)
def one2 (t : Nat → Int) (v : Nat → Nat) (i : Nat) : ByteArray := Num.smallB (Num.zig (wrap64 (t i - last t i))) ++ Num.wideB (v i)
theorem one1_size (t : Nat → Int) (v : Nat → Nat) (i : Nat) : 16 ≤ (one1 t v i).size ∧ (one1 t v i).size ≤ 16 := by
  unfold one1; rw [ByteArray.size_append, Num.wideB_size, Num.wideB_size]; omega
theorem one2_size (t : Nat → Int) (v : Nat → Nat) (i : Nat) : 9 ≤ (one2 t v i).size ∧ (one2 t v i).size ≤ 18 := by
  unfold one2; rw [ByteArray.size_append, Num.wideB_size]
  have := Num.small_pos (Num.zig (wrap64 (t i - last t i)))
  have := Fr.small_le (Num.zig (wrap64 (t i - last t i)))
  omega
def body1 (t : Nat → Int) (v : Nat → Nat) (n : Nat) : ByteArray := Num.wideB n ++ cat (one1 t v) 0 n
def body2 (t : Nat → Int) (v : Nat → Nat) (n : Nat) : ByteArray := Num.smallB n ++ cat (one2 t v) 0 n
def body3 (t : Nat → Int) (v : Nat → Nat) (n : Nat) : ByteArray := (Num.smallB n ++ Fr.txt (Bit.text (St.bits t n))) ++ Fr.txt (Bit.text (Va.bits v n))
/-- samples as bytes -/
def body (gen : Int) (t : Nat → Int) (v : Nat → Nat) (n : Nat) : ByteArray := if gen = 1 then body1 t v n else if gen = 2 then body2 t v n else body3 t v n
def full (gen : Int) (t : Nat → Int) (v : Nat → Nat) (n : Nat) : ByteArray := body gen t v n ++ Crc.four (Crc.ofB (body gen t v n))
/-- may samples be put? -/
def okay (gen : Int) (t : Nat → Int) (n : Nat) : Bool := decide (1 ≤ gen ∧ gen ≤ 3 ∧ n ≤ 200) && Ma.rising (sm t (fun _ => 0)) n
def put (gen : Int) (t : Nat → Int) (v : Nat → Nat) (n : Nat) : ByteArray × Int := if okay gen t n = true then (full gen t v n, 0) else (ByteArray.empty, 1)
theorem rising_sm (t : Nat → Int) (v v2 : Nat → Nat) (n : Nat) : Ma.rising (sm t v) n = Ma.rising (sm t v2) n := rfl
theorem text3_size (t : Nat → Int) (n : Nat) : (Bit.text (St.bits t n)).size ≤ 9 * n := by
  rw [Bit.text_size]; have := St.bits_length t n; omega
theorem textV_size (v : Nat → Nat) (n : Nat) : (Bit.text (Va.bits v n)).size ≤ 10 * n := by
  rw [Bit.text_size]; have := Va.bits_length v n; omega
theorem body_size (gen : Int) (t : Nat → Int) (v : Nat → Nat) (n : Nat) : 1 ≤ (body gen t v n).size ∧ (body gen t v n).size ≤ 30 + 20 * n := by
  unfold body
  split
  · unfold body1; rw [ByteArray.size_append, Num.wideB_size]; have := cat_size _ 16 16 (one1_size t v) n 0; omega
  · split
    · unfold body2; rw [ByteArray.size_append]; have := cat_size _ 9 18 (one2_size t v) n 0; have := Num.small_pos n; have := Fr.small_le n; omega
    · unfold body3; rw [ByteArray.size_append, ByteArray.size_append, Fr.txt_size, Fr.txt_size]
      have := text3_size t n; have := textV_size v n; have := Num.small_pos n; have := Fr.small_le n
      have := Fr.small_le (Bit.text (St.bits t n)).size; have := Fr.small_le (Bit.text (Va.bits v n)).size
      omega
theorem full_size (gen : Int) (t : Nat → Int) (v : Nat → Nat) (n : Nat) : (full gen t v n).size = (body gen t v n).size + 4 := by
  unfold full; rw [ByteArray.size_append, Crc.four_size]

/-- a number is taken: whether there was one, it, and what is behind it -/
def step (wide : Bool) (s : ByteArray) : Option (Nat × ByteArray) :=
  if wide = true then (if 8 ≤ s.size then some (Num.num (s.data.toList.take 8), s.extract 8 s.size) else none)
  else (if (Num.decp 0 0 s.data.toList).2.2 = true then some ((Num.decp 0 0 s.data.toList).1, s.extract (Num.decp 0 0 s.data.toList).2.1 s.size) else none)
theorem step_one (wide : Bool) (n : Nat) (hn : n < 18446744073709551616) (r : ByteArray) : step wide (one wide n ++ r) = some (n, r) := by
  unfold step one
  by_cases h : wide = true
  · rw [if_pos h, if_pos h]
    have h8 := Num.wideB_size n
    have e := Num.drop_app (Num.wideB n) r
    rw [h8] at e
    rw [if_pos (by rw [ByteArray.size_append, h8]; omega), Num.num_wide n hn, e]
  · rw [if_neg h, if_neg h, Num.decp_small n hn]
    simp only [if_true]
    rw [Num.drop_app]
theorem step_lt (wide : Bool) (s : ByteArray) (n : Nat) (r : ByteArray) (h : step wide s = some (n, r)) : n < 18446744073709551616 := by
  unfold step at h
  split at h
  · split at h
    · simp only [Option.some.injEq, Prod.mk.injEq] at h
      rw [← h.1]
      have h1 := Num.num_lt (s.data.toList.take 8)
      have h2 : (s.data.toList.take 8).length = 8 := by simp; omega
      rw [h2] at h1
      exact h1
    · cases h
  · split at h
    · simp only [Option.some.injEq, Prod.mk.injEq] at h
      rw [← h.1]
      exact Num.decp_lt _ 0 0 (by decide) (by decide)
    · cases h
theorem step_size (wide : Bool) (s : ByteArray) (n : Nat) (r : ByteArray) (h : step wide s = some (n, r)) : r.size ≤ s.size := by
  unfold step at h
  split at h
  · split at h
    · simp only [Option.some.injEq, Prod.mk.injEq] at h
      rw [← h.2, ByteArray.size_extract]; omega
    · cases h
  · split at h
    · simp only [Option.some.injEq, Prod.mk.injEq] at h
      rw [← h.2, ByteArray.size_extract]; omega
    · cases h
/-- a cursor: bytes, and whether it is bad -/
def adv (wide : Bool) (c : ByteArray × Bool) : Nat × (ByteArray × Bool) :=
  if c.2 = true then (0, c.1, true) else match step wide c.1 with
    | some (n, r) => (n, r, false)
    | none => (0, c.1, true)
theorem adv_one (wide : Bool) (n : Nat) (hn : n < 18446744073709551616) (r : ByteArray) : adv wide (one wide n ++ r, false) = (n, r, false) := by
  unfold adv
  simp only [Bool.false_eq_true, if_false]
  rw [step_one wide n hn]
theorem adv_wide1 (n : Nat) (hn : n < 18446744073709551616) (r : ByteArray) : adv true (Num.wideB n ++ r, false) = (n, r, false) := adv_one true n hn r
theorem adv_small1 (n : Nat) (hn : n < 18446744073709551616) (r : ByteArray) : adv false (Num.smallB n ++ r, false) = (n, r, false) := adv_one false n hn r
theorem adv_lt (wide : Bool) (c : ByteArray × Bool) : (adv wide c).1 < 18446744073709551616 := by
  unfold adv
  split
  · simp
  · split
    · rename_i n r h; exact step_lt wide _ n r h
    · simp
theorem adv_size (wide : Bool) (c : ByteArray × Bool) : (adv wide c).2.1.size ≤ c.1.size := by
  unfold adv
  split
  · simp
  · split
    · rename_i n r h; exact step_size wide _ n r h
    · simp
theorem adv_small (s : ByteArray) (bad : Bool) : adv false (s, bad) =
    (Num.curV bad (Num.decp 0 0 s.data.toList).2.2 (Num.decp 0 0 s.data.toList).1 0, Num.curV bad (Num.decp 0 0 s.data.toList).2.2 (s.extract (Num.decp 0 0 s.data.toList).2.1 s.size) s, bad || !(Num.decp 0 0 s.data.toList).2.2) := by
  unfold adv step Num.curV
  rw [if_neg (by decide : ¬ (false = true))]
  cases bad
  · simp only [Bool.false_eq_true, if_false, Bool.false_or]
    cases hd : (Num.decp 0 0 s.data.toList).2.2 <;> simp
  · simp
theorem adv_wide (s : ByteArray) (bad : Bool) : adv true (s, bad) =
    (Num.curV bad (decide (8 ≤ s.size)) (if decide (8 ≤ s.size) = true then Num.num (s.data.toList.take 8) else 0) 0, Num.curV bad (decide (8 ≤ s.size)) (s.extract (if decide (8 ≤ s.size) = true then 8 else 0) s.size) s, bad || !decide (8 ≤ s.size)) := by
  unfold adv step Num.curV
  rw [if_pos rfl]
  cases bad
  · simp only [Bool.false_eq_true, if_false, Bool.false_or]
    by_cases h : 8 ≤ s.size <;> simp [h]
  · simp
/-- a text is taken -/
def advT (c : ByteArray × Bool) : ByteArray × (ByteArray × Bool) :=
  (Num.curV c.2 (Num.xOk (c.1.size : Nat) c.1) (if Num.xOk (c.1.size : Nat) c.1 = true then Num.xV c.1 else ByteArray.empty) ByteArray.empty, Num.curV c.2 (Num.xOk (c.1.size : Nat) c.1) (c.1.extract (if Num.xOk (c.1.size : Nat) c.1 = true then Num.xN c.1 else 0) c.1.size) c.1, c.2 || !Num.xOk (c.1.size : Nat) c.1)
theorem advT_txt (t r : ByteArray) (ht : t.size < 18446744073709551616) : advT (Fr.txt t ++ r, false) = (t, r, false) := by
  have h := Num.decp_small t.size ht (t ++ r)
  have e : Fr.txt t ++ r = Num.smallB t.size ++ (t ++ r) := by unfold Fr.txt; rw [ByteArray.append_assoc]
  have hn : Num.xN (Fr.txt t ++ r) = (Fr.txt t).size := by
    unfold Num.xN; rw [e, h, Fr.txt_size]
  have hok : Num.xOk ((Fr.txt t ++ r).size : Nat) (Fr.txt t ++ r) = true := by
    unfold Num.xOk
    rw [e, h]
    simp only [ByteArray.size_append, Bool.true_and, decide_eq_true_eq]; omega
  have hv : Num.xV (Fr.txt t ++ r) = t := by
    unfold Num.xV
    rw [hn, e, h]
    have h1 : (Num.smallB t.size).data.toList.length = (Num.smallB t.size).size := by simp
    have h2 : t.data.toList.length = t.size := by simp
    apply ByteArray.ext; apply Array.toList_inj.1
    simp only [ByteArray.data_extract, Array.toList_extract, List.extract_eq_take_drop, Num.app_list, Fr.txt_size]
    rw [List.drop_left' h1, List.take_left' (by omega)]
  unfold advT
  simp only [hok, if_true, hv, hn]
  rw [Num.drop_app]
  rfl
theorem advT_size (c : ByteArray × Bool) : (advT c).2.1.size ≤ c.1.size ∧ (advT c).1.size ≤ c.1.size := by
  obtain ⟨s, bad⟩ := c
  unfold advT Num.curV Num.xV
  constructor
  · show (if (bad || !Num.xOk (s.size : Nat) s) = true then s else s.extract (if Num.xOk (s.size : Nat) s = true then Num.xN s else 0) s.size).size ≤ s.size
    split
    · exact Nat.le_refl _
    · rw [ByteArray.size_extract]; omega
  · show (if (bad || !Num.xOk (s.size : Nat) s) = true then ByteArray.empty else if Num.xOk (s.size : Nat) s = true then s.extract (Num.decp 0 0 s.data.toList).2.1 (Num.xN s) else ByteArray.empty).size ≤ s.size
    split
    · simp
    · split
      · rw [ByteArray.size_extract]; omega
      · simp
/-- reading, one by one -/
def rd {σ : Type} (f : σ → (Int × Nat) × σ) (bad : σ → Bool) : Nat → List (Int × Nat) → σ → List (Int × Nat) × σ
  | 0, l, s => (l, s)
  | k + 1, l, s => if bad s = true then (l, s) else rd f bad k (l ++ [(f s).1]) (f s).2
theorem rd_cat {σ : Type} (f : σ → (Int × Nat) × σ) (bad : σ → Bool) (g : Nat → ByteArray) (S : Nat → ByteArray → σ) (x : Nat → Int × Nat) (n : Nat)
    (hb : ∀ k b, bad (S k b) = false) (hf : ∀ k b, k < n → f (S k (g k ++ b)) = (x k, S (k + 1) b)) (r : ByteArray) :
    ∀ m k l, k + m ≤ n → rd f bad m l (S k (cat g k m ++ r)) = (l ++ (List.range' k m).map x, S (k + m) r)
  | 0, k, l, _ => by simp [rd, cat]
  | m + 1, k, l, h => by
    rw [rd, hb, if_neg (by decide), cat, ByteArray.append_assoc, hf k _ (by omega)]
    show rd f bad m (l ++ [x k]) (S (k + 1) (cat g (k + 1) m ++ r)) = _
    rw [rd_cat f bad g S x n hb hf r m (k + 1) _ (by omega), List.range'_succ]
    simp only [List.map_cons, List.append_assoc, List.cons_append, List.nil_append]
    rw [show k + 1 + m = k + (m + 1) from by omega]
theorem rd_length {σ : Type} (f : σ → (Int × Nat) × σ) (bad : σ → Bool) : ∀ m l s, (rd f bad m l s).1.length ≤ l.length + m
  | 0, l, s => by simp [rd]
  | m + 1, l, s => by
    rw [rd]
    split
    · show l.length ≤ _; omega
    · have := rd_length f bad m (l ++ [(f s).1]) (f s).2
      simp at this; omega
theorem rd_mem {σ : Type} (f : σ → (Int × Nat) × σ) (bad : σ → Bool) (P : Int × Nat → Prop) (hf : ∀ s, P (f s).1) : ∀ m l s, (∀ x ∈ l, P x) → ∀ x ∈ (rd f bad m l s).1, P x
  | 0, l, s, h => by simpa [rd] using h
  | m + 1, l, s, h => by
    rw [rd]
    split
    · exact h
    · refine rd_mem f bad P hf m _ _ (fun x hx => ?_)
      rcases List.mem_append.1 hx with hx | hx
      · exact h x hx
      · obtain rfl : x = (f s).1 := by simpa using hx
        exact hf s
def step1 (c : ByteArray × Bool) : (Int × Nat) × (ByteArray × Bool) := ((wrap64 ((adv true c).1 : Int), (adv true (adv true c).2).1), (adv true (adv true c).2).2)
def step2 (s : Int × (ByteArray × Bool)) : (Int × Nat) × (Int × (ByteArray × Bool)) :=
  ((wrap64 (s.1 + wrap64 (Num.zag (adv false s.2).1)), (adv true (adv false s.2).2).1), (wrap64 (s.1 + wrap64 (Num.zag (adv false s.2).1)), (adv true (adv false s.2).2).2))
def fin {σ : Type} (bad : σ → Bool) (r : List (Int × Nat) × σ) : List (Int × Nat) := if bad r.2 = true then [] else r.1
def bad1 (c : ByteArray × Bool) : Bool := c.2
def bad2 (s : Int × (ByteArray × Bool)) : Bool := s.2.2
def r1 (c : ByteArray × Bool) := rd step1 bad1 (adv true c).1 [] (adv true c).2
def r2 (c : ByteArray × Bool) := rd step2 bad2 (adv false c).1 [] (0, (adv false c).2)
def parse1 (c : ByteArray × Bool) : List (Int × Nat) × (ByteArray × Bool) :=
  if 200 < (adv true c).1 then ([], (adv true c).2.1, true) else (fin bad1 (r1 c), (r1 c).2)
def parse2 (c : ByteArray × Bool) : List (Int × Nat) × (ByteArray × Bool) :=
  if 200 < (adv false c).1 then ([], (adv false c).2.1, true) else (fin bad2 (r2 c), (r2 c).2.2)
def parse3 (c : ByteArray × Bool) : List (Int × Nat) × (ByteArray × Bool) :=
  if 200 < (adv false c).1 then ([], (adv false c).2.1, true) else
    if (advT (advT (adv false c).2).2).2.2 = true then ([], (advT (advT (adv false c).2).2).2.1, true) else
      match St.read (advT (adv false c).2).1 ((adv false c).1 : Nat), Va.read (advT (advT (adv false c).2).2).1 ((adv false c).1 : Nat) with
      | some ts, some vs => (ts.zip vs, (advT (advT (adv false c).2).2).2)
      | _, _ => ([], (advT (advT (adv false c).2).2).2.1, true)
def parse (gen : Int) (c : ByteArray × Bool) : List (Int × Nat) × (ByteArray × Bool) := if gen = 1 then parse1 c else if gen = 2 then parse2 c else parse3 c
def tL (l : List (Int × Nat)) (i : Nat) : Int := (l.getD i (0, 0)).1
def vL (l : List (Int × Nat)) (i : Nat) : Nat := (l.getD i (0, 0)).2
/-- may a sample be read? -/
def inS (x : Int × Nat) : Prop := St.inR x.1 ∧ x.2 < 18446744073709551616
theorem w64_in (a : Int) : St.inR (wrap64 a) := by unfold St.inR wrap64; omega
theorem step1_in (c : ByteArray × Bool) : inS (step1 c).1 := ⟨w64_in _, adv_lt _ _⟩
theorem step2_in (s : Int × (ByteArray × Bool)) : inS (step2 s).1 := ⟨w64_in _, adv_lt _ _⟩
theorem parse_in (gen : Int) (c : ByteArray × Bool) : (parse gen c).1.length ≤ 200 ∧ ∀ x ∈ (parse gen c).1, inS x := by
  unfold parse
  split
  · unfold parse1
    split
    · exact ⟨by simp, fun x hx => by simp at hx⟩
    · unfold fin
      split
      · exact ⟨by simp, fun x hx => by simp at hx⟩
      · have := rd_length step1 bad1 (adv true c).1 [] (adv true c).2
        refine ⟨by unfold r1; simp at this ⊢; omega, ?_⟩
        exact rd_mem step1 bad1 inS step1_in _ _ _ (fun x hx => by simp at hx)
  · split
    · unfold parse2
      split
      · exact ⟨by simp, fun x hx => by simp at hx⟩
      · unfold fin
        split
        · exact ⟨by simp, fun x hx => by simp at hx⟩
        · have := rd_length step2 bad2 (adv false c).1 [] (0, (adv false c).2)
          refine ⟨by unfold r2; simp at this ⊢; omega, ?_⟩
          exact rd_mem step2 bad2 inS step2_in _ _ _ (fun x hx => by simp at hx)
    · unfold parse3
      split
      · exact ⟨by simp, fun x hx => by simp at hx⟩
      · split
        · exact ⟨by simp, fun x hx => by simp at hx⟩
        · split
          · rename_i ts vs h1 h2
            obtain ⟨a1, _, _, a4⟩ := St.read_some h1
            obtain ⟨b1, _, _, b4⟩ := Va.read_some h2
            refine ⟨by simp; omega, fun x hx => ?_⟩
            obtain ⟨h3, h4⟩ := List.of_mem_zip (a := x.1) (b := x.2) hx
            exact ⟨a4 _ h3, b4 _ h4⟩
          · exact ⟨by simp, fun x hx => by simp at hx⟩
/-- the samples that bytes are -/
def get (gen : Int) (s : ByteArray) : List (Int × Nat) × Int :=
  if ¬ (1 ≤ gen ∧ gen ≤ 3) then ([], 1) else if (Crc.good s).2 = false then ([], 9) else
    if (parse gen ((Crc.good s).1, false)).2.2 = false ∧ (parse gen ((Crc.good s).1, false)).2.1 = ByteArray.empty ∧ put gen (tL (parse gen ((Crc.good s).1, false)).1) (vL (parse gen ((Crc.good s).1, false)).1) (parse gen ((Crc.good s).1, false)).1.length = (s, 0)
    then ((parse gen ((Crc.good s).1, false)).1, 0) else ([], 9)
theorem get_some {gen : Int} {s : ByteArray} (h : (get gen s).2 = 0) : put gen (tL (get gen s).1) (vL (get gen s).1) (get gen s).1.length = (s, 0) ∧ (get gen s).1.length ≤ 200 ∧ (∀ x ∈ (get gen s).1, inS x) := by
  unfold get at h ⊢
  split at h
  · cases h
  · rename_i h1
    rw [if_neg h1]
    split at h
    · cases h
    · rename_i h2
      rw [if_neg h2]
      split at h
      · rename_i h3
        rw [if_pos h3]
        exact ⟨h3.2.2, parse_in _ _⟩
      · cases h
theorem get_none {gen : Int} {s : ByteArray} (h : (get gen s).2 ≠ 0) : (get gen s).1 = [] ∧ ((get gen s).2 = 1 ∨ (get gen s).2 = 9) := by
  unfold get at h ⊢
  split
  · exact ⟨rfl, .inl rfl⟩
  · rename_i h1
    rw [if_neg h1] at h
    split
    · exact ⟨rfl, .inr rfl⟩
    · rename_i h2
      rw [if_neg h2] at h
      split
      · rename_i h3; rw [if_pos h3] at h; exact absurd rfl h
      · exact ⟨rfl, .inr rfl⟩
theorem get_in (gen : Int) (s : ByteArray) : (get gen s).1.length ≤ 200 ∧ ∀ x ∈ (get gen s).1, inS x := by
  by_cases h : (get gen s).2 = 0
  · exact (get_some h).2
  · rw [(get_none h).1]; exact ⟨by simp, fun x hx => by simp at hx⟩
theorem put_size (gen : Int) (t : Nat → Int) (v : Nat → Nat) (n : Nat) : (put gen t v n).1.size ≤ 5000 := by
  unfold put
  split
  · rename_i h
    unfold okay at h
    simp only [Bool.and_eq_true, decide_eq_true_eq] at h
    show (full gen t v n).size ≤ 5000
    rw [full_size]
    have := body_size gen t v n
    omega
  · show ByteArray.empty.size ≤ 5000
    simp
/-- the list of the first n -/
def lst (t : Nat → Int) (v : Nat → Nat) (n : Nat) : List (Int × Nat) := (List.range n).map fun i => (t i, v i)
theorem lst_length (t : Nat → Int) (v : Nat → Nat) (n : Nat) : (lst t v n).length = n := by simp [lst]
theorem tL_lst (t : Nat → Int) (v : Nat → Nat) (n i : Nat) (h : i < n) : tL (lst t v n) i = t i ∧ vL (lst t v n) i = v i := by
  unfold tL vL lst
  simp [List.getD, h]
theorem cat_congr (g h : Nat → ByteArray) : ∀ m k, (∀ i, k ≤ i → i < k + m → g i = h i) → cat g k m = cat h k m
  | 0, k, _ => rfl
  | m + 1, k, e => by rw [cat, cat, e k (by omega) (by omega), cat_congr g h m (k + 1) (fun i h1 h2 => e i (by omega) (by omega))]
theorem body_congr (gen : Int) (t t2 : Nat → Int) (v v2 : Nat → Nat) (n : Nat) (h : ∀ i, i < n → t i = t2 i ∧ v i = v2 i) : body gen t v n = body gen t2 v2 n := by
  unfold body body1 body2 body3
  have e1 : cat (one1 t v) 0 n = cat (one1 t2 v2) 0 n := cat_congr _ _ _ _ (fun i _ hi => by unfold one1; rw [(h i (by omega)).1, (h i (by omega)).2])
  have e2 : cat (one2 t v) 0 n = cat (one2 t2 v2) 0 n := cat_congr _ _ _ _ (fun i _ hi => by
    unfold one2 last
    rw [(h i (by omega)).1, (h i (by omega)).2]
    by_cases h0 : i = 0
    · rw [if_pos h0, if_pos h0]
    · rw [if_neg h0, if_neg h0, (h (i - 1) (by omega)).1])
  rw [e1, e2, (St.after_congr n (fun i hi => (h i hi).1)).2, (Va.after_congr n (fun i hi => (h i hi).2)).2]
theorem rising_congr (t t2 : Nat → Int) (v v2 : Nat → Nat) (n : Nat) (h : ∀ i, i < n → t i = t2 i) : Ma.rising (sm t v) n = Ma.rising (sm t2 v2) n := by
  have key : ∀ (t t2 : Nat → Int) (v v2 : Nat → Nat), (∀ i, i < n → t i = t2 i) → Ma.rising (sm t v) n = true → Ma.rising (sm t2 v2) n = true := fun t t2 v v2 h hr => by
    refine Ma.rising_yes (fun i hi => ?_)
    have h1 : t i < t (i + 1) := by
      by_cases h2 : t i < t (i + 1)
      · exact h2
      · have := Ma.rising_no (s := sm t v) (n := n) (i := i) hi h2
        rw [this] at hr; cases hr
    show t2 i < t2 (i + 1)
    rw [← h i (by omega), ← h (i + 1) hi]; exact h1
  cases h1 : Ma.rising (sm t v) n with
  | true => exact (key t t2 v v2 h h1).symm
  | false =>
    cases h2 : Ma.rising (sm t2 v2) n with
    | false => rfl
    | true => rw [key t2 t v2 v (fun i hi => (h i hi).symm) h2] at h1; cases h1
theorem put_congr (gen : Int) (t t2 : Nat → Int) (v v2 : Nat → Nat) (n : Nat) (h : ∀ i, i < n → t i = t2 i ∧ v i = v2 i) : put gen t v n = put gen t2 v2 n := by
  unfold put full okay
  rw [body_congr gen t t2 v v2 n h, rising_congr t t2 (fun _ => 0) (fun _ => 0) n (fun i hi => (h i hi).1)]
theorem wz (a b : Int) (ha : St.inR a) (_hb : St.inR b) : wrap64 (b + wrap64 (Num.zag (Num.zig (wrap64 (a - b))))) = a := by
  rw [Num.zag_zig]
  unfold St.inR at ha
  unfold wrap64
  omega
theorem last_in (t : Nat → Int) (n : Nat) (ht : ∀ i, i < n → St.inR (t i)) (i : Nat) (h : i < n) : St.inR (last t i) := by
  unfold last
  split
  · unfold St.inR; omega
  · exact ht _ (by omega)
theorem parse_body (gen : Int) (_hg : 1 ≤ gen ∧ gen ≤ 3) (t : Nat → Int) (v : Nat → Nat) (n : Nat) (hn : n ≤ 200) (ht : ∀ i, i < n → St.inR (t i)) (hv : ∀ i, i < n → v i < 18446744073709551616) :
    parse gen (body gen t v n, false) = (lst t v n, ByteArray.empty, false) := by
  unfold parse body
  by_cases h1 : gen = 1
  · rw [if_pos h1, if_pos h1]
    have ha : adv true (body1 t v n, false) = (n, cat (one1 t v) 0 n ++ ByteArray.empty, false) := by
      unfold body1; rw [adv_wide1 n (by omega)]; simp
    have hr : r1 (body1 t v n, false) = (lst t v n, ByteArray.empty, false) := by
      unfold r1
      rw [ha]
      have := rd_cat step1 bad1 (one1 t v) (fun _ b => (b, false)) (fun i => (t i, v i)) n (fun _ _ => rfl) (fun k b hk => by
        unfold step1 one1
        rw [ByteArray.append_assoc, adv_wide1 _ (u_lt _), adv_wide1 _ (hv k hk), w_u _ (ht k hk)]) ByteArray.empty n 0 [] (by omega)
      rw [this]
      simp [lst, List.range_eq_range']
    unfold parse1
    rw [hr, ha, if_neg (by show ¬ 200 < n; omega)]
    rfl
  · rw [if_neg h1, if_neg h1]
    by_cases h2 : gen = 2
    · rw [if_pos h2, if_pos h2]
      have ha : adv false (body2 t v n, false) = (n, cat (one2 t v) 0 n ++ ByteArray.empty, false) := by
        unfold body2; rw [adv_small1 n (by omega)]; simp
      have hr : r2 (body2 t v n, false) = (lst t v n, last t (0 + n), ByteArray.empty, false) := by
        unfold r2
        rw [ha]
        have := rd_cat step2 bad2 (one2 t v) (fun k b => (last t k, b, false)) (fun i => (t i, v i)) n (fun _ _ => rfl) (fun k b hk => by
          unfold step2 one2
          have hz := Num.zig_lt (wrap64 (t k - last t k)) (w64_in _).1 (by have := (w64_in (t k - last t k)).2; omega)
          rw [ByteArray.append_assoc, adv_small1 _ hz, adv_wide1 _ (hv k hk), wz _ _ (ht k hk) (last_in t n ht k hk)]
          rfl) ByteArray.empty n 0 [] (by omega)
        rw [show (0, (n, cat (one2 t v) 0 n ++ ByteArray.empty, false).2) = ((fun (k : Nat) (b : ByteArray) => (last t k, b, false)) 0 (cat (one2 t v) 0 n ++ ByteArray.empty)) from rfl, this]
        simp [lst, List.range_eq_range']
      unfold parse2
      rw [hr, ha, if_neg (by show ¬ 200 < n; omega)]
      rfl
    · rw [if_neg h2, if_neg h2]
      have ha : adv false (body3 t v n, false) = (n, Fr.txt (Bit.text (St.bits t n)) ++ (Fr.txt (Bit.text (Va.bits v n)) ++ ByteArray.empty), false) := by
        unfold body3; rw [ByteArray.append_assoc, adv_small1 n (by omega)]; simp
      have s1 := text3_size t n
      have s2 := textV_size v n
      unfold parse3
      rw [ha]
      simp only
      rw [if_neg (by omega), advT_txt _ _ (by omega)]
      simp only
      rw [advT_txt _ _ (by omega)]
      simp only [Bool.false_eq_true, if_false]
      rw [St.read_bits t n (by omega) ht, Va.read_bits v n (by omega) hv]
      simp only [lst]
      rw [List.zip_map']
theorem get_full (gen : Int) (t : Nat → Int) (v : Nat → Nat) (n : Nat) (ht : ∀ i, i < n → St.inR (t i)) (hv : ∀ i, i < n → v i < 18446744073709551616) (h : okay gen t n = true) :
    get gen (full gen t v n) = (lst t v n, 0) := by
  have h0 := h
  unfold okay at h0
  simp only [Bool.and_eq_true, decide_eq_true_eq] at h0
  obtain ⟨⟨hg1, hg2, hn⟩, -⟩ := h0
  have hgood : Crc.good (full gen t v n) = (body gen t v n, true) := by
    unfold full; rw [Crc.good_append _ _ (Crc.four_size _), if_pos rfl]
  unfold get
  rw [if_neg (by simpa using ⟨hg1, hg2⟩), hgood, if_neg (by simp), parse_body gen ⟨hg1, hg2⟩ t v n hn ht hv]
  have hp : put gen (tL (lst t v n)) (vL (lst t v n)) n = (full gen t v n, 0) := by
    rw [put_congr gen _ t _ v n (fun i hi => tL_lst t v n i hi)]
    unfold put; rw [if_pos h]
  simp only [lst_length, hp]
  simp
theorem full_inj (gen : Int) (t t2 : Nat → Int) (v v2 : Nat → Nat) (n n2 : Nat) (ht : ∀ i, i < n → St.inR (t i)) (hv : ∀ i, i < n → v i < 18446744073709551616) (ht2 : ∀ i, i < n2 → St.inR (t2 i)) (hv2 : ∀ i, i < n2 → v2 i < 18446744073709551616)
    (h : okay gen t n = true) (h2 : okay gen t2 n2 = true) (e : full gen t v n = full gen t2 v2 n2) : n = n2 ∧ ∀ i, i < n → t i = t2 i ∧ v i = v2 i := by
  have e1 := get_full gen t v n ht hv h
  have e2 := get_full gen t2 v2 n2 ht2 hv2 h2
  rw [e, e2] at e1
  have e3 : lst t2 v2 n2 = lst t v n := (Prod.mk.inj e1).1
  have e4 : n = n2 := by have := congrArg List.length e3; simp only [lst_length] at this; omega
  subst e4
  refine ⟨rfl, fun i hi => ?_⟩
  have a := tL_lst t v n i hi
  have b := tL_lst t2 v2 n i hi
  rw [e3] at b
  exact ⟨a.1.symm.trans b.1, a.2.symm.trans b.2⟩
end Ch
end Go.Proofs.YtfgcgjogaaofdaaGreatDoor
