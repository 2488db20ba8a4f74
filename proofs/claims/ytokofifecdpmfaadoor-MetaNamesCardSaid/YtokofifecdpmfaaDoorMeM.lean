/-
  The mathematics of package meta: what may be, what it is as bytes, and what bytes tell.
-/
import Derived.Test.YtokofifecdpmfaaDoorFrH
import Derived.Test.YtokofifecdpmfaaDoorNumO
namespace Go.Proofs.YtokofifecdpmfaaDoor
open Go.RowKit
namespace Me
/-- what a store is made of -/
structure M where
  gen : Int
  next : Int
  wal : Int
  bs : List Int
/-- the first k files may be: each in its place, each once -/
def good (next : Int) (fs : List Int) (k : Nat) : Prop := ∀ i, i < k → 0 ≤ fs.getD i 0 ∧ fs.getD i 0 < next ∧ fs.getD i 0 ∉ fs.take i
instance (next : Int) (fs : List Int) (k : Nat) : Decidable (good next fs k) := by unfold good; infer_instance
theorem good_zero (next : Int) (fs : List Int) : good next fs 0 := fun i h => absurd h (by omega)
theorem good_succ (next : Int) (fs : List Int) (k : Nat) (h : good next fs k) (h2 : 0 ≤ fs.getD k 0 ∧ fs.getD k 0 < next ∧ fs.getD k 0 ∉ fs.take k) : good next fs (k + 1) := fun i hi => by
  rcases Nat.lt_or_ge i k with h3 | h3
  · exact h i h3
  · obtain rfl : i = k := by omega
    exact h2
def okay (m : M) : Prop := 1 ≤ m.gen ∧ m.gen ≤ 3 ∧ 0 ≤ m.next ∧ m.next ≤ 999999 ∧ m.bs.length ≤ 40
instance (m : M) : Decidable (okay m) := by unfold okay; infer_instance
def valid (m : M) : Bool := decide (okay m ∧ good m.next (m.wal :: m.bs) (m.bs.length + 1))
theorem valid_iff (m : M) : valid m = true ↔ okay m ∧ good m.next (m.wal :: m.bs) (m.bs.length + 1) := by unfold valid; simp
theorem valid_wal {m : M} (h : valid m = true) : 0 ≤ m.wal ∧ m.wal < m.next := by
  have h1 := ((valid_iff m).1 h).2 0 (by omega)
  simp at h1
  exact h1
theorem valid_mem {m : M} (h : valid m = true) : ∀ x ∈ m.bs, 0 ≤ x ∧ x < m.next := fun x hx => by
  obtain ⟨i, hi, rfl⟩ := List.getElem_of_mem hx
  have h1 := ((valid_iff m).1 h).2 (i + 1) (by omega)
  simp [List.getD, hi] at h1
  exact ⟨h1.1, h1.2.1⟩
theorem valid_okay {m : M} (h : valid m = true) : okay m := ((valid_iff m).1 h).1
/-- a number, as a generation has it -/
def one (gen : Int) (n : Nat) : ByteArray := if gen = 1 then Num.wideB n else Num.smallB n
def nums (gen : Int) : List Nat → ByteArray
  | [] => ByteArray.empty
  | n :: l => one gen n ++ nums gen l
theorem one_size (gen : Int) (n : Nat) : (one gen n).size ≤ 10 := by
  unfold one
  split
  · rw [Num.wideB_size]; omega
  · exact Num.small_size n
theorem nums_append (gen : Int) (a b : List Nat) : nums gen (a ++ b) = nums gen a ++ nums gen b := by
  induction a with
  | nil => simp [nums]
  | cons x a ih => simp [nums, ih, ByteArray.append_assoc]
theorem nums_snoc (gen : Int) (a : List Nat) (x : Nat) : nums gen (a ++ [x]) = nums gen a ++ one gen x := by
  rw [nums_append]; simp [nums]
theorem nums_size (gen : Int) (l : List Nat) : (nums gen l).size ≤ 10 * l.length := by
  induction l with
  | nil => simp [nums]
  | cons x l ih => have := one_size gen x; simp only [nums, ByteArray.size_append, List.length_cons]; omega
/-- of blocks the numbers that are put -/
def tells (gen : Int) : Int → List Int → List Nat
  | _, [] => []
  | last, b :: l => (if gen = 3 then Num.zig (b - last) else b.toNat) :: tells gen b l
theorem tells_length (gen : Int) : ∀ (l : List Int) (last : Int), (tells gen last l).length = l.length
  | [], _ => rfl
  | b :: l, _ => by simp [tells, tells_length gen l b]
/-- the number ahead of the k-th one -/
def ahead (l : List Int) (k : Nat) : Int := if k = 0 then 0 else l.getD (k - 1) 0
theorem tells_take (gen : Int) : ∀ (l : List Int) (last : Int) (k : Nat), k < l.length →
    (tells gen last l).take (k + 1) = (tells gen last l).take k ++ [if gen = 3 then Num.zig (l.getD k 0 - (if k = 0 then last else l.getD (k - 1) 0)) else (l.getD k 0).toNat]
  | [], _, k, h => by simp at h
  | b :: l, last, 0, _ => by simp [tells]
  | b :: l, last, k + 1, h => by
    have := tells_take gen l b k (by simpa using h)
    simp only [tells, List.take_succ_cons, List.cons_append]
    rw [this]
    cases k with
    | zero => simp
    | succ k => simp
def head3 (m : M) : List Nat := [m.next.toNat, (if m.gen = 3 then m.next - m.wal else m.wal).toNat, m.bs.length]
def code (m : M) : List Nat := head3 m ++ tells m.gen 0 m.bs
theorem code_length (m : M) : (code m).length = 3 + m.bs.length := by simp [code, head3, tells_length]; omega
def body (m : M) : ByteArray := nums m.gen (code m)
theorem body_size (m : M) (h : m.bs.length ≤ 40) : (body m).size ≤ 430 := by
  have h1 := nums_size m.gen (code m)
  rw [code_length] at h1
  unfold body; omega
def amet : ByteArray := ⟨#[65, 77, 69, 84]⟩
def bytes (m : M) : ByteArray := Fr.head amet m.gen 0 ++ Fr.put (body m)
theorem bytes_size (m : M) (h : m.bs.length ≤ 40) : (bytes m).size ≤ 454 := by
  unfold bytes
  have h1 := body_size m h
  have h2 := Fr.small_le (body m).size
  rw [ByteArray.size_append, Fr.head_size, Fr.put_size]
  have : amet.size = 4 := rfl
  omega

/-- a number is taken: whether there was one, it, and what is behind it -/
def step (gen : Int) (s : ByteArray) : Option (Nat × ByteArray) :=
  if gen = 1 then (if 8 ≤ s.size then some (Num.num (s.data.toList.take 8), s.extract 8 s.size) else none)
  else (if (Num.decp 0 0 s.data.toList).2.2 = true then some ((Num.decp 0 0 s.data.toList).1, s.extract (Num.decp 0 0 s.data.toList).2.1 s.size) else none)
theorem step_one (gen : Int) (n : Nat) (hn : n < 18446744073709551616) (r : ByteArray) : step gen (one gen n ++ r) = some (n, r) := by
  unfold step one
  by_cases h : gen = 1
  · rw [if_pos h, if_pos h]
    have h8 := Num.wideB_size n
    have e := Num.drop_app (Num.wideB n) r
    rw [h8] at e
    rw [if_pos (by rw [ByteArray.size_append, h8]; omega), Num.num_wide n hn, e]
  · rw [if_neg h, if_neg h, Num.decp_small n hn]
    simp only [if_true]
    rw [Num.drop_app]
theorem step_lt (gen : Int) (s : ByteArray) (n : Nat) (r : ByteArray) (h : step gen s = some (n, r)) : n < 18446744073709551616 := by
  unfold step at h
  split at h
  · split at h
    · simp only [Option.some.injEq, Prod.mk.injEq] at h
      rw [← h.1]
      have h1 := Num.num_lt (s.data.toList.take 8)
      have h2 : (s.data.toList.take 8).length = 8 := by simp; omega
      rw [h2] at h1
      exact h1
    · cases h
  · split at h
    · simp only [Option.some.injEq, Prod.mk.injEq] at h
      rw [← h.1]
      exact Num.decp_lt _ 0 0 (by decide) (by decide)
    · cases h
theorem step_size (gen : Int) (s : ByteArray) (n : Nat) (r : ByteArray) (h : step gen s = some (n, r)) : r.size ≤ s.size := by
  unfold step at h
  split at h
  · split at h
    · simp only [Option.some.injEq, Prod.mk.injEq] at h
      rw [← h.2, ByteArray.size_extract]; omega
    · cases h
  · split at h
    · simp only [Option.some.injEq, Prod.mk.injEq] at h
      rw [← h.2, ByteArray.size_extract]; omega
    · cases h
/-- a cursor: bytes, and whether it is bad -/
def Cur := ByteArray × Bool
def adv (gen : Int) (c : ByteArray × Bool) : Nat × (ByteArray × Bool) :=
  if c.2 = true then (0, c.1, true) else match step gen c.1 with
    | some (n, r) => (n, r, false)
    | none => (0, c.1, true)
theorem adv_bad (gen : Int) (s : ByteArray) : adv gen (s, true) = (0, s, true) := rfl
theorem adv_one (gen : Int) (n : Nat) (hn : n < 18446744073709551616) (r : ByteArray) : adv gen (one gen n ++ r, false) = (n, r, false) := by
  unfold adv
  simp only [Bool.false_eq_true, if_false]
  rw [step_one gen n hn]
theorem adv_lt (gen : Int) (c : ByteArray × Bool) : (adv gen c).1 < 18446744073709551616 := by
  unfold adv
  split
  · simp
  · split
    · rename_i n r h; exact step_lt gen _ n r h
    · simp
theorem adv_size (gen : Int) (c : ByteArray × Bool) : (adv gen c).2.1.size ≤ c.1.size := by
  unfold adv
  split
  · simp
  · split
    · rename_i n r h; exact step_size gen _ n r h
    · simp
/-- what is told of blocks, number by number: at most k more of them -/
def rest (gen : Int) : Nat → Int → List Int → Int → (ByteArray × Bool) → List Int
  | 0, _, l, _, _ => l
  | k + 1, n, l, last, c =>
    if n ≤ 0 ∨ 40 ≤ l.length ∨ c.2 = true then l
    else
      let a := adv gen c
      let x := if gen = 3 then wrap64 (last + wrap64 (Num.zag a.1)) else wrap64 (a.1 : Int)
      rest gen k (n - 1) (l ++ [x]) x a.2
def read (s : ByteArray) (gen : Int) : M :=
  let a := adv gen (s, false)
  let b := adv gen a.2
  let d := adv gen b.2
  { gen := gen, next := wrap64 (a.1 : Int), wal := if gen = 3 then wrap64 (wrap64 (a.1 : Int) - wrap64 (b.1 : Int)) else wrap64 (b.1 : Int), bs := rest gen 41 (wrap64 (d.1 : Int)) [] 0 d.2 }
theorem w64 (a : Int) (h0 : -9223372036854775808 ≤ a) (h1 : a ≤ 9223372036854775807) : wrap64 a = a := IntWalk.wrap64_in _ ⟨h0, h1⟩
theorem rest_put (gen : Int) : ∀ (l2 l1 : List Int) (last : Int) (k : Nat), (∀ x ∈ l2, 0 ≤ x ∧ x ≤ 999999) → 0 ≤ last → last ≤ 999999 → l1.length + l2.length ≤ 40 → l2.length < k →
    rest gen k l2.length l1 last (nums gen (tells gen last l2), false) = l1 ++ l2
  | [], l1, last, k + 1, _, _, _, _, _ => by simp [rest]
  | x :: l2, l1, last, k + 1, hm, h0, h1, hz, hk => by
    have hx := hm x (List.mem_cons_self ..)
    have hzig := Num.zig_lt (x - last) (by omega) (by omega)
    have ha : adv gen (nums gen (tells gen last (x :: l2)), false) = (if gen = 3 then Num.zig (x - last) else x.toNat, nums gen (tells gen x l2), false) := by
      simp only [tells, nums]
      exact adv_one gen _ (by split <;> omega) _
    rw [rest, if_neg (by simp at hz ⊢; omega), ha]
    have he : (if gen = 3 then wrap64 (last + wrap64 (Num.zag (if gen = 3 then Num.zig (x - last) else x.toNat))) else wrap64 (((if gen = 3 then Num.zig (x - last) else x.toNat) : Nat) : Int)) = x := by
      by_cases h3 : gen = 3
      · rw [if_pos h3, if_pos h3, Num.zag_zig, w64 (x - last) (by omega) (by omega), w64 _ (by omega) (by omega)]; omega
      · rw [if_neg h3, if_neg h3, w64 _ (by omega) (by omega)]; omega
    simp only [he]
    have hn : ((x :: l2).length : Int) - 1 = (l2.length : Int) := by simp
    rw [hn, rest_put gen l2 (l1 ++ [x]) x k (fun y hy => hm y (List.mem_cons_of_mem _ hy)) hx.1 hx.2 (by simp at hz ⊢; omega) (by simp at hk; omega)]
    simp
/-- what is put is read -/
theorem read_body (m : M) (h : valid m = true) : read (body m) m.gen = m := by
  obtain ⟨o1, o2, o3, o4, o5⟩ := valid_okay h
  obtain ⟨w1, w2⟩ := valid_wal h
  have hm := valid_mem h
  have e1 : body m = one m.gen m.next.toNat ++ (one m.gen (if m.gen = 3 then m.next - m.wal else m.wal).toNat ++ (one m.gen m.bs.length ++ nums m.gen (tells m.gen 0 m.bs))) := by
    simp [body, code, head3, nums]
  have hlt : (if m.gen = 3 then m.next - m.wal else m.wal).toNat < 18446744073709551616 := by split <;> omega
  unfold read
  rw [e1, adv_one _ _ (by omega)]
  simp only
  rw [adv_one _ _ hlt]
  simp only
  rw [adv_one _ _ (by omega)]
  simp only
  rw [w64 ((m.bs.length : Nat) : Int) (by omega) (by omega), w64 ((m.next.toNat : Nat) : Int) (by omega) (by omega), w64 (((if m.gen = 3 then m.next - m.wal else m.wal).toNat : Nat) : Int) (by omega) (by split <;> omega)]
  rw [rest_put m.gen m.bs [] 0 41 (fun x hx => ⟨(hm x hx).1, by have := (hm x hx).2; omega⟩) (by omega) (by omega) (by simpa using o5) (by omega)]
  have e2 : ((m.next.toNat : Nat) : Int) = m.next := by omega
  have e3 : (if m.gen = 3 then wrap64 (((m.next.toNat : Nat) : Int) - (((if m.gen = 3 then m.next - m.wal else m.wal).toNat : Nat) : Int)) else (((if m.gen = 3 then m.next - m.wal else m.wal).toNat : Nat) : Int)) = m.wal := by
    by_cases h3 : m.gen = 3
    · rw [if_pos h3, if_pos h3, w64 _ (by omega) (by omega)]; omega
    · rw [if_neg h3, if_neg h3]; omega
  rw [e3, e2]
  simp
end Me
end Go.Proofs.YtokofifecdpmfaaDoor
