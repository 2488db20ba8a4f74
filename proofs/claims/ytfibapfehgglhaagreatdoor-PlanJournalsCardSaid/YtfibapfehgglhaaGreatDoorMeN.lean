import Derived.Test.YtfibapfehgglhaaGreatDoorFrH
import Derived.Test.YtfibapfehgglhaaGreatDoorNumO
/-
  The mathematics of package meta: what may be, what it is as bytes, and what bytes tell.
-/
namespace Go.Proofs.YtfibapfehgglhaaGreatDoor
open Go.RowKit
namespace Me
/-- what a store is made of -/
structure M where
  gen : Int
  next : Int
  wal : Int
  bs : List Int
/-- the first k files may be: each in its place, each once -/
def good (next : Int) (fs : List Int) (k : Nat) : Prop := ∀ i, i < k → 0 ≤ fs.getD i 0 ∧ fs.getD i 0 < next ∧ fs.getD i 0 ∉ fs.take i
instance (next : Int) (fs : List Int) (k : Nat) : Decidable (good next fs k) := by unfold good; infer_instance
theorem good_zero (next : Int) (fs : List Int) : good next fs 0 := fun i h => absurd h (by omega)
theorem good_succ (next : Int) (fs : List Int) (k : Nat) (h : good next fs k) (h2 : 0 ≤ fs.getD k 0 ∧ fs.getD k 0 < next ∧ fs.getD k 0 ∉ fs.take k) : good next fs (k + 1) := fun i hi => by
  rcases Nat.lt_or_ge i k with h3 | h3
  · exact h i h3
  · obtain rfl : i = k := by omega
    exact h2
def okay (m : M) : Prop := 1 ≤ m.gen ∧ m.gen ≤ 3 ∧ 0 ≤ m.next ∧ m.next ≤ 999999 ∧ m.bs.length ≤ 40
instance (m : M) : Decidable (okay m) := by unfold okay; infer_instance
def valid (m : M) : Bool := decide (okay m ∧ good m.next (m.wal :: m.bs) (m.bs.length + 1))
theorem valid_iff (m : M) : valid m = true ↔ okay m ∧ good m.next (m.wal :: m.bs) (m.bs.length + 1) := by unfold valid; simp
theorem valid_wal {m : M} (h : valid m = true) : 0 ≤ m.wal ∧ m.wal < m.next := by
  have h1 := ((valid_iff m).1 h).2 0 (by omega)
  simp at h1
  exact h1
theorem valid_mem {m : M} (h : valid m = true) : ∀ x ∈ m.bs, 0 ≤ x ∧ x < m.next := fun x hx => by
  obtain ⟨i, hi, rfl⟩ := List.getElem_of_mem hx
  have h1 := ((valid_iff m).1 h).2 (i + 1) (by omega)
  simp [List.getD, hi] at h1
  exact ⟨h1.1, h1.2.1⟩
theorem valid_okay {m : M} (h : valid m = true) : okay m := ((valid_iff m).1 h).1
/-- a number, as a generation has it -/
def one (gen : Int) (n : Nat) : ByteArray := if gen = 1 then Num.wideB n else Num.smallB n
def nums (gen : Int) : List Nat → ByteArray
  | [] => ByteArray.empty
  | n :: l => one gen n ++ nums gen l
theorem one_size (gen : Int) (n : Nat) : (one gen n).size ≤ 10 := by
  unfold one
  split
  · rw [Num.wideB_size]; omega
  · exact Num.small_size n
theorem nums_append (gen : Int) (a b : List Nat) : nums gen (a ++ b) = nums gen a ++ nums gen b := by
  induction a with
  | nil => simp [nums]
  | cons x a ih => simp [nums, ih, ByteArray.append_assoc]
theorem nums_snoc (gen : Int) (a : List Nat) (x : Nat) : nums gen (a ++ [x]) = nums gen a ++ one gen x := by
  rw [nums_append]; simp [nums]
theorem nums_size (gen : Int) (l : List Nat) : (nums gen l).size ≤ 10 * l.length := by
  induction l with
  | nil => simp [nums]
  | cons x l ih => have := one_size gen x; simp only [nums, ByteArray.size_append, List.length_cons]; omega
/-- of blocks the numbers that are put -/
def tells (gen : Int) : Int → List Int → List Nat
  | _, [] => []
  | last, b :: l => (if gen = 3 then Num.zig (b - last) else b.toNat) :: tells gen b l
theorem tells_length (gen : Int) : ∀ (l : List Int) (last : Int), (tells gen last l).length = l.length
  | [], _ => rfl
  | b :: l, _ => by simp [tells, tells_length gen l b]
/-- the number ahead of the k-th one -/
def ahead (l : List Int) (k : Nat) : Int := if k = 0 then 0 else l.getD (k - 1) 0
theorem tells_take (gen : Int) : ∀ (l : List Int) (last : Int) (k : Nat), k < l.length →
    (tells gen last l).take (k + 1) = (tells gen last l).take k ++ [if gen = 3 then Num.zig (l.getD k 0 - (if k = 0 then last else l.getD (k - 1) 0)) else (l.getD k 0).toNat]
  | [], _, k, h => by simp at h
  | b :: l, last, 0, _ => by simp [tells]
  | b :: l, last, k + 1, h => by
    have := tells_take gen l b k (by simpa using h)
    simp only [tells, List.take_succ_cons, List.cons_append]
    rw [this]
    cases k with
    | zero => simp
    | succ k => simp
def head3 (m : M) : List Nat := [m.next.toNat, (if m.gen = 3 then m.next - m.wal else m.wal).toNat, m.bs.length]
def code (m : M) : List Nat := head3 m ++ tells m.gen 0 m.bs
theorem code_length (m : M) : (code m).length = 3 + m.bs.length := by simp [code, head3, tells_length]; omega
def body (m : M) : ByteArray := nums m.gen (code m)
theorem body_size (m : M) (h : m.bs.length ≤ 40) : (body m).size ≤ 430 := by
  have h1 := nums_size m.gen (code m)
  rw [code_length] at h1
  unfold body; omega
def amet : ByteArray := ⟨#[65, 77, 69, 84]⟩
def bytes (m : M) : ByteArray := Fr.head amet m.gen 0 ++ Fr.put (body m)
theorem bytes_size (m : M) (h : m.bs.length ≤ 40) : (bytes m).size ≤ 454 := by
  unfold bytes
  have h1 := body_size m h
  have h2 := Fr.small_le (body m).size
  rw [ByteArray.size_append, Fr.head_size, Fr.put_size]
  have : amet.size = 4 := rfl
  omega

/-- a number is taken: whether there was one, it, and what is behind it -/
def step (gen : Int) (s : ByteArray) : Option (Nat × ByteArray) :=
  if gen = 1 then (if 8 ≤ s.size then some (Num.num (s.data.toList.take 8), s.extract 8 s.size) else none)
  else (if (Num.decp 0 0 s.data.toList).2.2 = true then some ((Num.decp 0 0 s.data.toList).1, s.extract (Num.decp 0 0 s.data.toList).2.1 s.size) else none)
theorem step_one (gen : Int) (n : Nat) (hn : n < 18446744073709551616) (r : ByteArray) : step gen (one gen n ++ r) = some (n, r) := by
  unfold step one
  by_cases h : gen = 1
  · rw [if_pos h, if_pos h]
    have h8 := Num.wideB_size n
    have e := Num.drop_app (Num.wideB n) r
    rw [h8] at e
    rw [if_pos (by rw [ByteArray.size_append, h8]; omega), Num.num_wide n hn, e]
  · rw [if_neg h, if_neg h, Num.decp_small n hn]
    simp only [if_true]
    rw [Num.drop_app]
theorem step_lt (gen : Int) (s : ByteArray) (n : Nat) (r : ByteArray) (h : step gen s = some (n, r)) : n < 18446744073709551616 := by
  unfold step at h
  split at h
  · split at h
    · simp only [Option.some.injEq, Prod.mk.injEq] at h
      rw [← h.1]
      have h1 := Num.num_lt (s.data.toList.take 8)
      have h2 : (s.data.toList.take 8).length = 8 := by simp; omega
      rw [h2] at h1
      exact h1
    · cases h
  · split at h
    · simp only [Option.some.injEq, Prod.mk.injEq] at h
      rw [← h.1]
      exact Num.decp_lt _ 0 0 (by decide) (by decide)
    · cases h
theorem step_size (gen : Int) (s : ByteArray) (n : Nat) (r : ByteArray) (h : step gen s = some (n, r)) : r.size ≤ s.size := by
  unfold step at h
  split at h
  · split at h
    · simp only [Option.some.injEq, Prod.mk.injEq] at h
      rw [← h.2, ByteArray.size_extract]; omega
    · cases h
  · split at h
    · simp only [Option.some.injEq, Prod.mk.injEq] at h
      rw [← h.2, ByteArray.size_extract]; omega
    · cases h
/-- a cursor: bytes, and whether it is bad -/
def Cur := ByteArray × Bool
def adv (gen : Int) (c : ByteArray × Bool) : Nat × (ByteArray × Bool) :=
  if c.2 = true then (0, c.1, true) else match step gen c.1 with
    | some (n, r) => (n, r, false)
    | none => (0, c.1, true)
theorem adv_bad (gen : Int) (s : ByteArray) : adv gen (s, true) = (0, s, true) := rfl
theorem adv_one (gen : Int) (n : Nat) (hn : n < 18446744073709551616) (r : ByteArray) : adv gen (one gen n ++ r, false) = (n, r, false) := by
  unfold adv
  simp only [Bool.false_eq_true, if_false]
  rw [step_one gen n hn]
theorem adv_lt (gen : Int) (c : ByteArray × Bool) : (adv gen c).1 < 18446744073709551616 := by
  unfold adv
  split
  · simp
  · split
    · rename_i n r h; exact step_lt gen _ n r h
    · simp
theorem adv_size (gen : Int) (c : ByteArray × Bool) : (adv gen c).2.1.size ≤ c.1.size := by
  unfold adv
  split
  · simp
  · split
    · rename_i n r h; exact step_size gen _ n r h
    · simp
/-- what is told of blocks, number by number: at most k more of them -/
def rest (gen : Int) : Nat → Int → List Int → Int → (ByteArray × Bool) → List Int
  | 0, _, l, _, _ => l
  | k + 1, n, l, last, c =>
    if n ≤ 0 ∨ 40 ≤ l.length ∨ c.2 = true then l
    else
      let a := adv gen c
      let x := if gen = 3 then wrap64 (last + wrap64 (Num.zag a.1)) else wrap64 (a.1 : Int)
      rest gen k (n - 1) (l ++ [x]) x a.2
def read (s : ByteArray) (gen : Int) : M :=
  let a := adv gen (s, false)
  let b := adv gen a.2
  let d := adv gen b.2
  { gen := gen, next := wrap64 (a.1 : Int), wal := if gen = 3 then wrap64 (wrap64 (a.1 : Int) - wrap64 (b.1 : Int)) else wrap64 (b.1 : Int), bs := rest gen 41 (wrap64 (d.1 : Int)) [] 0 d.2 }
theorem w64 (a : Int) (h0 : -9223372036854775808 ≤ a) (h1 : a ≤ 9223372036854775807) : wrap64 a = a := IntWalk.wrap64_in _ ⟨h0, h1⟩
theorem rest_put (gen : Int) : ∀ (l2 l1 : List Int) (last : Int) (k : Nat), (∀ x ∈ l2, 0 ≤ x ∧ x ≤ 999999) → 0 ≤ last → last ≤ 999999 → l1.length + l2.length ≤ 40 → l2.length < k →
    rest gen k l2.length l1 last (nums gen (tells gen last l2), false) = l1 ++ l2
  | [], l1, last, k + 1, _, _, _, _, _ => by simp [rest]
  | x :: l2, l1, last, k + 1, hm, h0, h1, hz, hk => by
    have hx := hm x (List.mem_cons_self ..)
    have hzig := Num.zig_lt (x - last) (by omega) (by omega)
    have ha : adv gen (nums gen (tells gen last (x :: l2)), false) = (if gen = 3 then Num.zig (x - last) else x.toNat, nums gen (tells gen x l2), false) := by
      simp only [tells, nums]
      exact adv_one gen _ (by split <;> omega) _
    rw [rest, if_neg (by simp at hz ⊢; omega), ha]
    have he : (if gen = 3 then wrap64 (last + wrap64 (Num.zag (if gen = 3 then Num.zig (x - last) else x.toNat))) else wrap64 (((if gen = 3 then Num.zig (x - last) else x.toNat) : Nat) : Int)) = x := by
      by_cases h3 : gen = 3
      · rw [if_pos h3, if_pos h3, Num.zag_zig, w64 (x - last) (by omega) (by omega), w64 _ (by omega) (by omega)]; omega
      · rw [if_neg h3, if_neg h3, w64 _ (by omega) (by omega)]; omega
    simp only [he]
    have hn : ((x :: l2).length : Int) - 1 = (l2.length : Int) := by simp
    rw [hn, rest_put gen l2 (l1 ++ [x]) x k (fun y hy => hm y (List.mem_cons_of_mem _ hy)) hx.1 hx.2 (by simp at hz ⊢; omega) (by simp at hk; omega)]
    simp
/-- what is put is read -/
theorem read_body (m : M) (h : valid m = true) : read (body m) m.gen = m := by
  obtain ⟨o1, o2, o3, o4, o5⟩ := valid_okay h
  obtain ⟨w1, w2⟩ := valid_wal h
  have hm := valid_mem h
  have e1 : body m = one m.gen m.next.toNat ++ (one m.gen (if m.gen = 3 then m.next - m.wal else m.wal).toNat ++ (one m.gen m.bs.length ++ nums m.gen (tells m.gen 0 m.bs))) := by
    simp [body, code, head3, nums]
  have hlt : (if m.gen = 3 then m.next - m.wal else m.wal).toNat < 18446744073709551616 := by split <;> omega
  unfold read
  rw [e1, adv_one _ _ (by omega)]
  simp only
  rw [adv_one _ _ hlt]
  simp only
  rw [adv_one _ _ (by omega)]
  simp only
  rw [w64 ((m.bs.length : Nat) : Int) (by omega) (by omega), w64 ((m.next.toNat : Nat) : Int) (by omega) (by omega), w64 (((if m.gen = 3 then m.next - m.wal else m.wal).toNat : Nat) : Int) (by omega) (by split <;> omega)]
  rw [rest_put m.gen m.bs [] 0 41 (fun x hx => ⟨(hm x hx).1, by have := (hm x hx).2; omega⟩) (by omega) (by omega) (by simpa using o5) (by omega)]
  have e2 : ((m.next.toNat : Nat) : Int) = m.next := by omega
  have e3 : (if m.gen = 3 then wrap64 (((m.next.toNat : Nat) : Int) - (((if m.gen = 3 then m.next - m.wal else m.wal).toNat : Nat) : Int)) else (((if m.gen = 3 then m.next - m.wal else m.wal).toNat : Nat) : Int)) = m.wal := by
    by_cases h3 : m.gen = 3
    · rw [if_pos h3, if_pos h3, w64 _ (by omega) (by omega)]; omega
    · rw [if_neg h3, if_neg h3]; omega
  rw [e3, e2]
  simp
end Me
end Go.Proofs.YtfibapfehgglhaaGreatDoor
/-
  The mathematics of package meta: what bytes are got as, by the code and by the document's answer.
-/
namespace Go.Proofs.YtfibapfehgglhaaGreatDoor
open Go.RowKit
namespace Fr
theorem two_list (g f : Int) (hg : 0 ≤ g ∧ g ≤ 255) (hf : 0 ≤ f ∧ f ≤ 255) : (two g f).data.toList.map (fun b => b.toNat) = [g.toNat, f.toNat] := by
  unfold two
  rw [strOfNums_data]
  have h1 : g % 256 = g := by omega
  have h2 : f % 256 = f := by omega
  rw [h1, h2]
  simp
  omega
theorem at_right (a b : ByteArray) (i : Nat) : at_ (a ++ b) (a.size + i) = at_ b i := by
  unfold at_
  have h : a.data.toList.length = a.size := by simp
  rw [Num.app_list, List.getD_eq_getElem?_getD, List.getD_eq_getElem?_getD, List.getElem?_append_right (by omega), h]
  congr 2
  rw [Nat.add_sub_cancel_left]
theorem at_left (a b : ByteArray) (i : Nat) (hi : i < a.size) : at_ (a ++ b) i = at_ a i := by
  unfold at_
  have h : a.data.toList.length = a.size := by simp
  rw [Num.app_list, List.getD_eq_getElem?_getD, List.getD_eq_getElem?_getD, List.getElem?_append_left (by omega)]
theorem at_two (g f : Int) (hg : 0 ≤ g ∧ g ≤ 255) (hf : 0 ≤ f ∧ f ≤ 255) : at_ (two g f) 0 = g.toNat ∧ at_ (two g f) 1 = f.toNat := by
  have h := two_list g f hg hf
  have hl : (two g f).data.toList.length = 2 := by have := congrArg List.length h; simpa using this
  obtain ⟨a, b, e⟩ : ∃ a b, (two g f).data.toList = [a, b] := by
    generalize (two g f).data.toList = l at hl
    match l, hl with
    | [a, b], _ => exact ⟨a, b, rfl⟩
  unfold at_
  rw [e] at h ⊢
  simp at h
  exact ⟨by simpa using h.1, by simpa using h.2⟩
theorem opened_head (magic r : ByteArray) (g f : Int) (hg : 1 ≤ g ∧ g ≤ 3) (hf : 0 ≤ f ∧ f ≤ 3) : opened (head magic g f ++ r) magic = (g.toNat, f.toNat, r, 0) := by
  have h2 := two_size g f
  have h4 := Crc.four_size (Crc.ofB (magic ++ two g f))
  have hz := head_size magic g f
  have hm2 : (magic ++ two g f).size = magic.size + 2 := by rw [ByteArray.size_append, h2]
  obtain ⟨t0, t1⟩ := at_two g f (by omega) (by omega)
  have e1 : (head magic g f ++ r).extract 0 magic.size = magic := by
    unfold head
    rw [ByteArray.append_assoc, ByteArray.append_assoc]
    exact Num.take_app _ _
  have e2 : (head magic g f ++ r).extract (magic.size + 2) (magic.size + 2 + 4) = Crc.four (Crc.ofB (magic ++ two g f)) := by
    have := ext_mid (magic ++ two g f) (Crc.four (Crc.ofB (magic ++ two g f))) r
    rw [hm2, h4] at this
    exact this
  have e3 : (head magic g f ++ r).extract 0 (magic.size + 2) = magic ++ two g f := by
    unfold head
    rw [ByteArray.append_assoc, ← hm2]
    exact Num.take_app _ _
  have e4 : (head magic g f ++ r).extract (magic.size + 2 + 4) (head magic g f ++ r).size = r := by
    have := Num.drop_app (head magic g f) r
    rw [hz] at this
    exact this
  have a0 : at_ (head magic g f ++ r) magic.size = g.toNat := by
    unfold head
    rw [ByteArray.append_assoc, ByteArray.append_assoc]
    have := at_right magic (two g f ++ (Crc.four (Crc.ofB (magic ++ two g f)) ++ r)) 0
    rw [Nat.add_zero] at this
    rw [this, at_left _ _ _ (by omega), t0]
  have a1 : at_ (head magic g f ++ r) (magic.size + 1) = f.toNat := by
    unfold head
    rw [ByteArray.append_assoc, ByteArray.append_assoc, at_right magic _ 1, at_left _ _ _ (by omega), t1]
  unfold opened
  rw [if_neg (by rw [ByteArray.size_append, hz]; omega), e1, if_neg (by simp), e2, e3, if_neg (by simp), a0, a1, if_neg (by omega), if_neg (by omega), e4]
theorem opened_cases (s magic : ByteArray) : (opened s magic).2.2.2 = 0 ∨ (opened s magic).2.2.2 = 9 ∨ (opened s magic).2.2.2 = 10 := by
  unfold opened
  repeat' split
  all_goals simp
theorem opened_size (s magic : ByteArray) : (opened s magic).2.2.1.size ≤ s.size := by
  unfold opened
  repeat' split
  all_goals first | (simp; done) | (simp only [ByteArray.size_extract]; omega)
theorem opened_gen (s magic : ByteArray) (h : (opened s magic).2.2.2 = 0) : 1 ≤ (opened s magic).1 ∧ (opened s magic).1 ≤ 3 := by
  unfold opened at h ⊢
  split at h
  · simp at h
  split at h
  · simp at h
  split at h
  · simp at h
  split at h
  · simp at h
  split at h
  · simp at h
  rename_i h1 h2 h3 h4 h5
  rw [if_neg h1, if_neg h2, if_neg h3, if_neg h4, if_neg h5]
  dsimp only
  omega
end Fr
namespace Me
def zero : M := ⟨0, 0, 0, []⟩
/-- what bytes are got as, and the error -/
def got (s : ByteArray) : M × Nat :=
  if (Fr.opened s amet).2.2.2 ≠ 0 then (zero, (Fr.opened s amet).2.2.2)
  else if (Fr.get (Fr.opened s amet).2.2.1 ((Fr.opened s amet).2.2.1.size : Nat)).2.2 = 0 ∧ valid (read (Fr.get (Fr.opened s amet).2.2.1 ((Fr.opened s amet).2.2.1.size : Nat)).1 ((Fr.opened s amet).1 : Nat)) = true ∧ bytes (read (Fr.get (Fr.opened s amet).2.2.1 ((Fr.opened s amet).2.2.1.size : Nat)).1 ((Fr.opened s amet).1 : Nat)) = s then (read (Fr.get (Fr.opened s amet).2.2.1 ((Fr.opened s amet).2.2.1.size : Nat)).1 ((Fr.opened s amet).1 : Nat), 0)
  else (zero, 9)
theorem opened_bytes (m : M) (h : valid m = true) : Fr.opened (bytes m) amet = (m.gen.toNat, 0, Fr.put (body m), 0) := by
  obtain ⟨o1, o2, _⟩ := valid_okay h
  exact Fr.opened_head amet (Fr.put (body m)) m.gen 0 ⟨o1, o2⟩ (by omega)
theorem get_body (m : M) (h : valid m = true) (most : Int) (hm : ((body m).size : Int) ≤ most) : Fr.get (Fr.put (body m)) most = (body m, ByteArray.empty, 0) := by
  have hz := body_size m (valid_okay h).2.2.2.2
  have := Fr.get_put (body m) ByteArray.empty most hm (by omega)
  rwa [show Fr.put (body m) ++ ByteArray.empty = Fr.put (body m) from by simp] at this
/-- what is put is got -/
theorem got_bytes (m : M) (h : valid m = true) : got (bytes m) = (m, 0) := by
  obtain ⟨o1, o2, _⟩ := valid_okay h
  have hz : ((body m).size : Int) ≤ ((Fr.put (body m)).size : Nat) := by rw [Fr.put_size]; omega
  have hg : ((m.gen.toNat : Nat) : Int) = m.gen := by omega
  unfold got
  simp only [opened_bytes m h]
  rw [if_neg (by simp)]
  simp only [get_body m h _ hz, hg, read_body m h]
  rw [if_pos (by simp [h])]
theorem got_yes (s : ByteArray) (h : (got s).2 = 0) : valid (got s).1 = true ∧ bytes (got s).1 = s := by
  unfold got at h ⊢
  split at h
  · rename_i h0; exact absurd h h0
  · rename_i h0
    rw [if_neg h0]
    split at h
    · rename_i h1
      rw [if_pos h1]
      exact h1.2
    · exact absurd h (by simp)
theorem got_no (s : ByteArray) (h : (got s).2 ≠ 0) : (got s).1 = zero ∧ ((got s).2 = 9 ∨ (got s).2 = 10) := by
  have hc := Fr.opened_cases s amet
  unfold got at h ⊢
  split at h
  · rename_i h0
    rw [if_pos h0]
    exact ⟨rfl, by rcases hc with h1 | h1 | h1 <;> simp_all⟩
  · rename_i h0
    rw [if_neg h0]
    split at h
    · exact absurd rfl h
    · rename_i h1
      rw [if_neg h1]
      exact ⟨rfl, .inl rfl⟩
/-- of two that may be the bytes are others -/
theorem bytes_inj (a b : M) (ha : valid a = true) (hb : valid b = true) (h : bytes a = bytes b) : a = b := by
  have h1 := got_bytes a ha
  rw [h, got_bytes b hb] at h1
  exact (congrArg Prod.fst h1).symm
/-- a number, as the document's answer takes it -/
def rg (gen : Int) (s : ByteArray) : Nat × ByteArray × Bool := match step gen s with
  | some (n, r) => (n, r, true)
  | none => (0, s, false)
theorem rg_one (gen : Int) (n : Nat) (hn : n < 18446744073709551616) (r : ByteArray) : rg gen (one gen n ++ r) = (n, r, true) := by
  unfold rg; rw [step_one gen n hn]
theorem rg_lt (gen : Int) (s : ByteArray) : (rg gen s).1 < 18446744073709551616 := by
  unfold rg
  split
  · rename_i n r h; exact step_lt gen _ n r h
  · simp
theorem rg_size (gen : Int) (s : ByteArray) : (rg gen s).2.1.size ≤ s.size := by
  unfold rg
  split
  · rename_i n r h; exact step_size gen _ n r h
  · simp
/-- k blocks more, as the document's answer takes them -/
def rrest (gen : Int) : Nat → List Int → Int → ByteArray → Option (List Int × ByteArray)
  | 0, l, _, s => some (l, s)
  | k + 1, l, last, s =>
    if (rg gen s).2.2 = true then
      rrest gen k (l ++ [if gen = 3 then wrap64 (Num.zag (rg gen s).1 + last) else wrap64 ((rg gen s).1 : Int)]) (if gen = 3 then wrap64 (Num.zag (rg gen s).1 + last) else wrap64 ((rg gen s).1 : Int)) (rg gen s).2.1
    else none
def rfirst (s : ByteArray) (gen : Int) : Bool := (rg gen s).2.2 && (rg gen (rg gen s).2.1).2.2 && (rg gen (rg gen (rg gen s).2.1).2.1).2.2 && decide ((rg gen s).1 ≤ 999999) && decide ((rg gen (rg gen s).2.1).1 ≤ 999999) && decide ((rg gen (rg gen (rg gen s).2.1).2.1).1 ≤ 40)
def rmeta (s : ByteArray) (gen : Int) (l : List Int) : M := ⟨gen, ((rg gen s).1 : Nat), if gen = 3 then ((rg gen s).1 : Int) - ((rg gen (rg gen s).2.1).1 : Nat) else ((rg gen (rg gen s).2.1).1 : Nat), l⟩
def rread (s : ByteArray) (gen : Int) : M × Bool :=
  if rfirst s gen = true then
    match rrest gen (rg gen (rg gen (rg gen s).2.1).2.1).1 [] 0 (rg gen (rg gen (rg gen s).2.1).2.1).2.1 with
    | some (l, r) => (rmeta s gen l, decide (r = ByteArray.empty))
    | none => (zero, false)
  else (zero, false)
theorem rrest_put (gen : Int) : ∀ (l2 l1 : List Int) (last : Int), (∀ x ∈ l2, 0 ≤ x ∧ x ≤ 999999) → 0 ≤ last → last ≤ 999999 →
    rrest gen l2.length l1 last (nums gen (tells gen last l2)) = some (l1 ++ l2, ByteArray.empty)
  | [], l1, last, _, _, _ => by simp [rrest, tells, nums]
  | x :: l2, l1, last, hm, h0, h1 => by
    have hx := hm x (List.mem_cons_self ..)
    have hzig := Num.zig_lt (x - last) (by omega) (by omega)
    have ha : rg gen (nums gen (tells gen last (x :: l2))) = (if gen = 3 then Num.zig (x - last) else x.toNat, nums gen (tells gen x l2), true) := by
      simp only [tells, nums]
      exact rg_one gen _ (by split <;> omega) _
    have he : (if gen = 3 then wrap64 (Num.zag (if gen = 3 then Num.zig (x - last) else x.toNat) + last) else wrap64 (((if gen = 3 then Num.zig (x - last) else x.toNat) : Nat) : Int)) = x := by
      by_cases h3 : gen = 3
      · rw [if_pos h3, if_pos h3, Num.zag_zig, w64 _ (by omega) (by omega)]; omega
      · rw [if_neg h3, if_neg h3, w64 _ (by omega) (by omega)]; omega
    rw [List.length_cons, rrest, ha]
    simp only [if_true, he]
    rw [rrest_put gen l2 (l1 ++ [x]) x (fun y hy => hm y (List.mem_cons_of_mem _ hy)) hx.1 hx.2]
    simp
theorem rread_body (m : M) (h : valid m = true) : rread (body m) m.gen = (m, true) := by
  obtain ⟨o1, o2, o3, o4, o5⟩ := valid_okay h
  obtain ⟨w1, w2⟩ := valid_wal h
  have hm := valid_mem h
  have hlt : (if m.gen = 3 then m.next - m.wal else m.wal).toNat ≤ 999999 := by split <;> omega
  have e1 : rg m.gen (body m) = (m.next.toNat, one m.gen (if m.gen = 3 then m.next - m.wal else m.wal).toNat ++ (one m.gen m.bs.length ++ nums m.gen (tells m.gen 0 m.bs)), true) := by
    rw [show body m = one m.gen m.next.toNat ++ (one m.gen (if m.gen = 3 then m.next - m.wal else m.wal).toNat ++ (one m.gen m.bs.length ++ nums m.gen (tells m.gen 0 m.bs))) from by simp [body, code, head3, nums]]
    exact rg_one _ _ (by omega) _
  have e2 := rg_one m.gen (if m.gen = 3 then m.next - m.wal else m.wal).toNat (by omega) (one m.gen m.bs.length ++ nums m.gen (tells m.gen 0 m.bs))
  have e3 := rg_one m.gen m.bs.length (by omega) (nums m.gen (tells m.gen 0 m.bs))
  have hr := rrest_put m.gen m.bs [] 0 (fun x hx => ⟨(hm x hx).1, by have := (hm x hx).2; omega⟩) (by omega) (by omega)
  have hf : rfirst (body m) m.gen = true := by
    unfold rfirst
    rw [e1]; simp only; rw [e2]; simp only; rw [e3]
    simp
    omega
  unfold rread
  rw [if_pos hf]
  unfold rmeta
  rw [e1]; simp only; rw [e2]; simp only; rw [e3]; simp only; rw [hr]
  have e4 : ((m.next.toNat : Nat) : Int) = m.next := by omega
  have e5 : (if m.gen = 3 then m.next - (((if m.gen = 3 then m.next - m.wal else m.wal).toNat : Nat) : Int) else (((if m.gen = 3 then m.next - m.wal else m.wal).toNat : Nat) : Int)) = m.wal := by
    by_cases h3 : m.gen = 3
    · rw [if_pos h3, if_pos h3]; omega
    · rw [if_neg h3, if_neg h3]; omega
  simp only [e4, e5, List.nil_append, decide_true]
/-- what the document's answer gets -/
def rgot (s : ByteArray) : M × Nat :=
  if (Fr.opened s amet).2.2.2 ≠ 0 then (zero, (Fr.opened s amet).2.2.2)
  else if (Fr.get (Fr.opened s amet).2.2.1 1000).2.2 ≠ 0 ∨ (Fr.get (Fr.opened s amet).2.2.1 1000).2.1 ≠ ByteArray.empty then (zero, 9)
  else if (rread (Fr.get (Fr.opened s amet).2.2.1 1000).1 ((Fr.opened s amet).1 : Nat)).2 = true ∧ valid (rread (Fr.get (Fr.opened s amet).2.2.1 1000).1 ((Fr.opened s amet).1 : Nat)).1 = true ∧ bytes (rread (Fr.get (Fr.opened s amet).2.2.1 1000).1 ((Fr.opened s amet).1 : Nat)).1 = s then ((rread (Fr.get (Fr.opened s amet).2.2.1 1000).1 ((Fr.opened s amet).1 : Nat)).1, 0)
  else (zero, 9)
theorem rgot_bytes (m : M) (h : valid m = true) : rgot (bytes m) = (m, 0) := by
  obtain ⟨o1, o2, _⟩ := valid_okay h
  have hz := body_size m (valid_okay h).2.2.2.2
  have hg : ((m.gen.toNat : Nat) : Int) = m.gen := by omega
  unfold rgot
  simp only [opened_bytes m h]
  rw [if_neg (by simp)]
  simp only [get_body m h 1000 (by omega), hg, rread_body m h]
  rw [if_neg (by simp), if_pos (by simp [h])]
theorem rgot_got (s : ByteArray) : rgot s = got s := by
  by_cases h : (got s).2 = 0
  · obtain ⟨h1, h2⟩ := got_yes s h
    have h3 := rgot_bytes _ h1
    have h4 := got_bytes _ h1
    rw [h2] at h3 h4
    rw [h3, h4]
  · by_cases h0 : (Fr.opened s amet).2.2.2 = 0
    · have hn := got_no s h
      have e9 : got s = (zero, 9) := by
        have : (got s).2 = 9 := by
          unfold got at h ⊢
          rw [if_neg (by simpa using h0)] at h ⊢
          split at h
          · exact absurd rfl h
          · rename_i h1; rw [if_neg h1]
        exact Prod.ext hn.1 this
      rw [e9]
      unfold rgot
      rw [if_neg (by simpa using h0)]
      split
      · rfl
      · split
        · rename_i h1
          have h5 := got_bytes _ h1.2.1
          rw [h1.2.2, e9] at h5
          exact absurd (congrArg Prod.snd h5) (by simp)
        · rfl
    · unfold rgot got
      rw [if_pos h0, if_pos h0]
end Me
end Go.Proofs.YtfibapfehgglhaaGreatDoor
