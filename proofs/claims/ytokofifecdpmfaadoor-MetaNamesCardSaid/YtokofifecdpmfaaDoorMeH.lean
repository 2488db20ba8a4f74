/-
  The mathematics of names: what is parsed, by the code and by the document's answer.
-/
import Derived.Test.YtokofifecdpmfaaDoorMeZ
namespace Go.Proofs.YtokofifecdpmfaaDoor
open Go.RowKit
namespace Me
theorem dig_cons : ∀ (i n : Nat), dig (i + 1) n = UInt8.ofNat (48 + n / 10 ^ i % 10) :: dig i n
  | 0, n => by simp [dig]
  | i + 1, n => by
    have h := dig_cons i (n / 10)
    rw [dig, h, dig, List.cons_append, Nat.div_div_eq_div_mul, ← Nat.pow_succ']
/-- a number out of digits -/
def val (l : List UInt8) : Int := l.foldl (fun a b => a * 10 + (b.toNat : Int) - 48) 0
theorem val_snoc (l : List UInt8) (b : UInt8) : val (l ++ [b]) = val l * 10 + (b.toNat : Int) - 48 := by simp [val]
theorem val_dig : ∀ k n, n < 10 ^ k → val (dig k n) = (n : Int)
  | 0, n, h => by simp at h; subst h; rfl
  | k + 1, n, h => by
    rw [dig, val_snoc, val_dig k (n / 10) (by rw [Nat.div_lt_iff_lt_mul (by omega), ← Nat.pow_succ]; exact h), digit_nat _ (by omega)]
    omega
theorem parse_append : ∀ (l r : List UInt8) (acc u : Nat), Lib.parseUint10 acc l = .ok u → Lib.parseUint10 acc (l ++ r) = Lib.parseUint10 u r
  | [], r, acc, u, h => by
    simp only [Lib.parseUint10] at h
    injection h with h
    rw [h]; rfl
  | c :: l, r, acc, u, h => by
    rw [List.cons_append]
    simp only [Lib.parseUint10] at h ⊢
    split at h
    · rename_i hc
      rw [if_pos hc]
      split at h
      · cases h
      · rename_i h1
        rw [if_neg h1]
        split at h
        · cases h
        · rename_i h2
          rw [if_neg h2]
          exact parse_append l r _ u h
    · cases h
theorem parse_dig : ∀ k n, k ≤ 6 → n < 10 ^ k → Lib.parseUint10 0 (dig k n) = .ok n
  | 0, n, _, h => by simp at h; subst h; rfl
  | k + 1, n, hk, h => by
    have h1 : n / 10 < 10 ^ k := by rw [Nat.div_lt_iff_lt_mul (by omega), ← Nat.pow_succ]; exact h
    have h6 : 10 ^ (k + 1) ≤ 10 ^ 6 := Nat.pow_le_pow_right (by omega) hk
    rw [dig, parse_append _ _ _ _ (parse_dig k (n / 10) (by omega) h1)]
    simp only [Lib.parseUint10]
    rw [digit_nat _ (by omega), if_pos (by omega), if_neg (by omega), if_neg (by omega)]
    congr 1
    omega
theorem atoi_dig (n : Nat) (h : n ≤ 999999) : Lib.atoiAll (dig 6 n) = .ok (n : Int) := by
  have hp := parse_dig 6 n (by omega) (by omega)
  rw [dig_cons] at hp ⊢
  have hd := digit_nat (n / 10 ^ 5 % 10) (by omega)
  unfold Lib.atoiAll
  dsimp only
  rw [hd, if_neg (by omega)]
  unfold Lib.parseMag
  rw [if_neg (by simp), hp]
  dsimp only
  rw [if_neg (by omega), if_neg (by omega), if_neg (by omega)]
theorem name_data (K : ByteArray) (n : Nat) (h : n ≤ 999999) : (nameB K n).data.toList = K.data.toList ++ 45 :: dig 6 n := by
  rw [name_yes K n h, List.append_assoc]; rfl
theorem wal_no : 45 ∉ wal.data.toList := by decide
theorem block_no : 45 ∉ block.data.toList := by decide
theorem parse_name (K : ByteArray) (hK : K = wal ∨ K = block) (n : Nat) (h : n ≤ 999999) : parse (nameB K n) = (K, (n : Int), true) := by
  have hno : 45 ∉ K.data.toList := by rcases hK with rfl | rfl <;> decide
  have hc := cut_app K.data.toList (dig 6 n) hno
  have hk : cutK (nameB K n) = K := by unfold cutK; rw [name_data K n h, hc]
  have ht : (cutT (nameB K n)).data.toList = dig 6 n := by unfold cutT; rw [name_data K n h, hc]
  unfold parse
  rw [ht, atoi_dig n h]
  dsimp only
  unfold parseAt
  rw [hk, if_pos ⟨hK, rfl⟩]
theorem empty_no (K : ByteArray) (n : Nat) (h : n ≤ 999999) : nameB K n ≠ ByteArray.empty := by
  intro e
  have := congrArg (fun s : ByteArray => s.data.toList.length) e
  simp only [name_data K n h] at this
  simp at this
/-- what is parsed is a name -/
theorem parse_yes (name : ByteArray) (h : (parse name).2.2 = true) : ∃ (K : ByteArray) (n : Nat), (K = wal ∨ K = block) ∧ n ≤ 999999 ∧ name = nameB K n ∧ parse name = (K, (n : Int), true) := by
  unfold parse at h ⊢
  split at h
  · rename_i v hv
    unfold parseAt at h ⊢
    split at h
    · rename_i hc
      obtain ⟨hk, hn⟩ := hc
      by_cases hr : 0 ≤ v ∧ v ≤ 999999
      · refine ⟨cutK name, v.toNat, hk, by omega, ?_, ?_⟩
        · rw [show ((v.toNat : Nat) : Int) = v by omega]; exact hn.symm
        · rw [if_pos ⟨hk, hn⟩, show ((v.toNat : Nat) : Int) = v by omega]
      · have he : nameB (cutK name) v = ByteArray.empty := by
          unfold nameB inName
          rw [if_neg (by simpa using hr)]
        rw [he] at hn
        exfalso
        subst hn
        rcases hk with hk | hk <;> exact absurd hk (by decide)
    · cases h
  · cases h
theorem parse_no (name : ByteArray) (h : (parse name).2.2 = false) : parse name = (ByteArray.empty, 0, false) := by
  unfold parse at h ⊢
  split at h
  · rename_i v hv
    unfold parseAt at h ⊢
    split at h
    · cases h
    · rename_i hc; rw [if_neg hc]
  · rfl
/-- the document's number -/
def rval (name : ByteArray) : Int := if name.size < 6 then 0 else val (name.data.toList.drop (name.size - 6))
def rparse (name : ByteArray) : ByteArray × Int × Bool :=
  if name ≠ ByteArray.empty ∧ nameB wal (rval name) = name then (wal, rval name, true)
  else if name ≠ ByteArray.empty ∧ nameB block (rval name) = name then (block, rval name, true)
  else (ByteArray.empty, 0, false)
theorem rval_name (K : ByteArray) (n : Nat) (h : n ≤ 999999) : rval (nameB K n) = (n : Int) := by
  have hl : (nameB K n).data.toList.length = (nameB K n).size := by simp
  have hz : (nameB K n).data.toList.length = K.data.toList.length + 1 + 6 := by
    rw [name_yes K n h, List.length_append, List.length_append, dig_length]; rfl
  have hdr : (nameB K n).data.toList.drop ((nameB K n).size - 6) = dig 6 n := by
    have e : (nameB K n).size - 6 = (K.data.toList ++ [45]).length := by
      rw [List.length_append, List.length_singleton]; omega
    rw [e, name_yes K n h]
    exact List.drop_left' rfl
  unfold rval
  rw [if_neg (by omega), hdr, val_dig 6 n (by omega)]
theorem rparse_eq (name : ByteArray) : rparse name = parse name := by
  by_cases hp : (parse name).2.2 = true
  · obtain ⟨K, n, hK, hn, he, hpe⟩ := parse_yes name hp
    rw [hpe]
    have hr : rval name = (n : Int) := by rw [he]; exact rval_name K n hn
    have hne : name ≠ ByteArray.empty := by rw [he]; exact empty_no K n hn
    unfold rparse
    rw [hr]
    rcases hK with rfl | rfl
    · rw [if_pos ⟨hne, he.symm⟩]
    · have hx : ¬ (name ≠ ByteArray.empty ∧ nameB wal (n : Int) = name) := fun h => by
        rw [he] at h
        exact name_kinds n n hn hn h.2
      rw [if_neg hx, if_pos ⟨hne, he.symm⟩]
  · have hpf : (parse name).2.2 = false := by simpa using hp
    rw [parse_no name hpf]
    have key : ∀ K, (K = wal ∨ K = block) → ¬ (name ≠ ByteArray.empty ∧ nameB K (rval name) = name) := fun K hK h => by
      obtain ⟨hne, he⟩ := h
      by_cases hr : 0 ≤ rval name ∧ rval name ≤ 999999
      · obtain ⟨m, hm⟩ : ∃ m : Nat, rval name = m := ⟨(rval name).toNat, by omega⟩
        rw [hm] at he hr
        have := parse_name K hK m (by omega)
        rw [he] at this
        rw [this] at hpf
        cases hpf
      · have : nameB K (rval name) = ByteArray.empty := by
          unfold nameB inName
          rw [if_neg (by simpa using hr)]
        rw [this] at he
        exact hne he.symm
    unfold rparse
    rw [if_neg (key wal (.inl rfl)), if_neg (key block (.inr rfl))]
theorem parse_of_name (kind : ByteArray) (n : Int) :
    (parse (nameB kind n)).2.2 = (decide (kind = wal ∨ kind = block) && inName n) ∧ ((decide (kind = wal ∨ kind = block) && inName n) = true → parse (nameB kind n) = (kind, n, true)) := by
  by_cases hr : 0 ≤ n ∧ n ≤ 999999
  · obtain ⟨m, rfl⟩ : ∃ m : Nat, n = m := ⟨n.toNat, by omega⟩
    have hin : inName (m : Int) = true := by unfold inName; simpa using hr
    rw [hin, Bool.and_true]
    by_cases hk : kind = wal ∨ kind = block
    · rw [parse_name kind hk m (by omega)]
      simp [hk]
    · refine ⟨?_, fun h => absurd (by simpa using h) hk⟩
      have hd : decide (kind = wal ∨ kind = block) = false := by simpa using hk
      rw [hd]
      cases hp : (parse (nameB kind (m : Int))).2.2 with
      | false => rfl
      | true =>
        obtain ⟨K, q, hK, hq, he, _⟩ := parse_yes _ hp
        exfalso
        have e := congrArg (fun s : ByteArray => s.data.toList) he
        simp only [name_yes kind m (by omega), name_yes K q hq] at e
        have h1 := List.append_inj_left' e (by rw [dig_length, dig_length])
        have h2 := List.append_inj_left' h1 rfl
        apply hk
        have : kind = K := by apply ByteArray.ext; exact Array.toList_inj.1 h2
        rw [this]; exact hK
  · have hin : inName n = false := by unfold inName; simpa using hr
    rw [hin, Bool.and_false]
    refine ⟨?_, fun h => by cases h⟩
    have he : nameB kind n = ByteArray.empty := by unfold nameB; rw [hin]; rfl
    rw [he]
    decide +kernel
end Me
end Go.Proofs.YtokofifecdpmfaaDoor
