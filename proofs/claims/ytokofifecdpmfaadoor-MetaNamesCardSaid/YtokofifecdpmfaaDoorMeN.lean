/-
  The mathematics of package meta: what bytes are got as, by the code and by the document's answer.
-/
import Derived.Test.YtokofifecdpmfaaDoorMeM
import Derived.Test.YtokofifecdpmfaaDoorFrH
namespace Go.Proofs.YtokofifecdpmfaaDoor
open Go.RowKit
namespace Fr
theorem two_list (g f : Int) (hg : 0 ≤ g ∧ g ≤ 255) (hf : 0 ≤ f ∧ f ≤ 255) : (two g f).data.toList.map (fun b => b.toNat) = [g.toNat, f.toNat] := by
  unfold two
  rw [strOfNums_data]
  have h1 : g % 256 = g := by omega
  have h2 : f % 256 = f := by omega
  rw [h1, h2]
  simp
  omega
theorem at_right (a b : ByteArray) (i : Nat) : at_ (a ++ b) (a.size + i) = at_ b i := by
  unfold at_
  have h : a.data.toList.length = a.size := by simp
  rw [Num.app_list, List.getD_eq_getElem?_getD, List.getD_eq_getElem?_getD, List.getElem?_append_right (by omega), h]
  congr 2
  rw [Nat.add_sub_cancel_left]
theorem at_left (a b : ByteArray) (i : Nat) (hi : i < a.size) : at_ (a ++ b) i = at_ a i := by
  unfold at_
  have h : a.data.toList.length = a.size := by simp
  rw [Num.app_list, List.getD_eq_getElem?_getD, List.getD_eq_getElem?_getD, List.getElem?_append_left (by omega)]
theorem at_two (g f : Int) (hg : 0 ≤ g ∧ g ≤ 255) (hf : 0 ≤ f ∧ f ≤ 255) : at_ (two g f) 0 = g.toNat ∧ at_ (two g f) 1 = f.toNat := by
  have h := two_list g f hg hf
  have hl : (two g f).data.toList.length = 2 := by have := congrArg List.length h; simpa using this
  obtain ⟨a, b, e⟩ : ∃ a b, (two g f).data.toList = [a, b] := by
    generalize (two g f).data.toList = l at hl
    match l, hl with
    | [a, b], _ => exact ⟨a, b, rfl⟩
  unfold at_
  rw [e] at h ⊢
  simp at h
  exact ⟨by simpa using h.1, by simpa using h.2⟩
theorem opened_head (magic r : ByteArray) (g f : Int) (hg : 1 ≤ g ∧ g ≤ 3) (hf : 0 ≤ f ∧ f ≤ 3) : opened (head magic g f ++ r) magic = (g.toNat, f.toNat, r, 0) := by
  have h2 := two_size g f
  have h4 := Crc.four_size (Crc.ofB (magic ++ two g f))
  have hz := head_size magic g f
  have hm2 : (magic ++ two g f).size = magic.size + 2 := by rw [ByteArray.size_append, h2]
  obtain ⟨t0, t1⟩ := at_two g f (by omega) (by omega)
  have e1 : (head magic g f ++ r).extract 0 magic.size = magic := by
    unfold head
    rw [ByteArray.append_assoc, ByteArray.append_assoc]
    exact Num.take_app _ _
  have e2 : (head magic g f ++ r).extract (magic.size + 2) (magic.size + 2 + 4) = Crc.four (Crc.ofB (magic ++ two g f)) := by
    have := ext_mid (magic ++ two g f) (Crc.four (Crc.ofB (magic ++ two g f))) r
    rw [hm2, h4] at this
    exact this
  have e3 : (head magic g f ++ r).extract 0 (magic.size + 2) = magic ++ two g f := by
    unfold head
    rw [ByteArray.append_assoc, ← hm2]
    exact Num.take_app _ _
  have e4 : (head magic g f ++ r).extract (magic.size + 2 + 4) (head magic g f ++ r).size = r := by
    have := Num.drop_app (head magic g f) r
    rw [hz] at this
    exact this
  have a0 : at_ (head magic g f ++ r) magic.size = g.toNat := by
    unfold head
    rw [ByteArray.append_assoc, ByteArray.append_assoc]
    have := at_right magic (two g f ++ (Crc.four (Crc.ofB (magic ++ two g f)) ++ r)) 0
    rw [Nat.add_zero] at this
    rw [this, at_left _ _ _ (by omega), t0]
  have a1 : at_ (head magic g f ++ r) (magic.size + 1) = f.toNat := by
    unfold head
    rw [ByteArray.append_assoc, ByteArray.append_assoc, at_right magic _ 1, at_left _ _ _ (by omega), t1]
  unfold opened
  rw [if_neg (by rw [ByteArray.size_append, hz]; omega), e1, if_neg (by simp), e2, e3, if_neg (by simp), a0, a1, if_neg (by omega), if_neg (by omega), e4]
theorem opened_cases (s magic : ByteArray) : (opened s magic).2.2.2 = 0 ∨ (opened s magic).2.2.2 = 9 ∨ (opened s magic).2.2.2 = 10 := by
  unfold opened
  repeat' split
  all_goals simp
theorem opened_size (s magic : ByteArray) : (opened s magic).2.2.1.size ≤ s.size := by
  unfold opened
  repeat' split
  all_goals first | (simp; done) | (simp only [ByteArray.size_extract]; omega)
theorem opened_gen (s magic : ByteArray) (h : (opened s magic).2.2.2 = 0) : 1 ≤ (opened s magic).1 ∧ (opened s magic).1 ≤ 3 := by
  unfold opened at h ⊢
  split at h
  · simp at h
  split at h
  · simp at h
  split at h
  · simp at h
  split at h
  · simp at h
  split at h
  · simp at h
  rename_i h1 h2 h3 h4 h5
  rw [if_neg h1, if_neg h2, if_neg h3, if_neg h4, if_neg h5]
  dsimp only
  omega
end Fr
namespace Me
def zero : M := ⟨0, 0, 0, []⟩
/-- what bytes are got as, and the error -/
def got (s : ByteArray) : M × Nat :=
  if (Fr.opened s amet).2.2.2 ≠ 0 then (zero, (Fr.opened s amet).2.2.2)
  else if (Fr.get (Fr.opened s amet).2.2.1 ((Fr.opened s amet).2.2.1.size : Nat)).2.2 = 0 ∧ valid (read (Fr.get (Fr.opened s amet).2.2.1 ((Fr.opened s amet).2.2.1.size : Nat)).1 ((Fr.opened s amet).1 : Nat)) = true ∧ bytes (read (Fr.get (Fr.opened s amet).2.2.1 ((Fr.opened s amet).2.2.1.size : Nat)).1 ((Fr.opened s amet).1 : Nat)) = s then (read (Fr.get (Fr.opened s amet).2.2.1 ((Fr.opened s amet).2.2.1.size : Nat)).1 ((Fr.opened s amet).1 : Nat), 0)
  else (zero, 9)
theorem opened_bytes (m : M) (h : valid m = true) : Fr.opened (bytes m) amet = (m.gen.toNat, 0, Fr.put (body m), 0) := by
  obtain ⟨o1, o2, _⟩ := valid_okay h
  exact Fr.opened_head amet (Fr.put (body m)) m.gen 0 ⟨o1, o2⟩ (by omega)
theorem get_body (m : M) (h : valid m = true) (most : Int) (hm : ((body m).size : Int) ≤ most) : Fr.get (Fr.put (body m)) most = (body m, ByteArray.empty, 0) := by
  have hz := body_size m (valid_okay h).2.2.2.2
  have := Fr.get_put (body m) ByteArray.empty most hm (by omega)
  rwa [show Fr.put (body m) ++ ByteArray.empty = Fr.put (body m) from by simp] at this
/-- what is put is got -/
theorem got_bytes (m : M) (h : valid m = true) : got (bytes m) = (m, 0) := by
  obtain ⟨o1, o2, _⟩ := valid_okay h
  have hz : ((body m).size : Int) ≤ ((Fr.put (body m)).size : Nat) := by rw [Fr.put_size]; omega
  have hg : ((m.gen.toNat : Nat) : Int) = m.gen := by omega
  unfold got
  simp only [opened_bytes m h]
  rw [if_neg (by simp)]
  simp only [get_body m h _ hz, hg, read_body m h]
  rw [if_pos (by simp [h])]
theorem got_yes (s : ByteArray) (h : (got s).2 = 0) : valid (got s).1 = true ∧ bytes (got s).1 = s := by
  unfold got at h ⊢
  split at h
  · rename_i h0; exact absurd h h0
  · rename_i h0
    rw [if_neg h0]
    split at h
    · rename_i h1
      rw [if_pos h1]
      exact h1.2
    · exact absurd h (by simp)
theorem got_no (s : ByteArray) (h : (got s).2 ≠ 0) : (got s).1 = zero ∧ ((got s).2 = 9 ∨ (got s).2 = 10) := by
  have hc := Fr.opened_cases s amet
  unfold got at h ⊢
  split at h
  · rename_i h0
    rw [if_pos h0]
    exact ⟨rfl, by rcases hc with h1 | h1 | h1 <;> simp_all⟩
  · rename_i h0
    rw [if_neg h0]
    split at h
    · exact absurd rfl h
    · rename_i h1
      rw [if_neg h1]
      exact ⟨rfl, .inl rfl⟩
/-- of two that may be the bytes are others -/
theorem bytes_inj (a b : M) (ha : valid a = true) (hb : valid b = true) (h : bytes a = bytes b) : a = b := by
  have h1 := got_bytes a ha
  rw [h, got_bytes b hb] at h1
  exact (congrArg Prod.fst h1).symm
/-- a number, as the document's answer takes it -/
def rg (gen : Int) (s : ByteArray) : Nat × ByteArray × Bool := match step gen s with
  | some (n, r) => (n, r, true)
  | none => (0, s, false)
theorem rg_one (gen : Int) (n : Nat) (hn : n < 18446744073709551616) (r : ByteArray) : rg gen (one gen n ++ r) = (n, r, true) := by
  unfold rg; rw [step_one gen n hn]
theorem rg_lt (gen : Int) (s : ByteArray) : (rg gen s).1 < 18446744073709551616 := by
  unfold rg
  split
  · rename_i n r h; exact step_lt gen _ n r h
  · simp
theorem rg_size (gen : Int) (s : ByteArray) : (rg gen s).2.1.size ≤ s.size := by
  unfold rg
  split
  · rename_i n r h; exact step_size gen _ n r h
  · simp
/-- k blocks more, as the document's answer takes them -/
def rrest (gen : Int) : Nat → List Int → Int → ByteArray → Option (List Int × ByteArray)
  | 0, l, _, s => some (l, s)
  | k + 1, l, last, s =>
    if (rg gen s).2.2 = true then
      rrest gen k (l ++ [if gen = 3 then wrap64 (Num.zag (rg gen s).1 + last) else wrap64 ((rg gen s).1 : Int)]) (if gen = 3 then wrap64 (Num.zag (rg gen s).1 + last) else wrap64 ((rg gen s).1 : Int)) (rg gen s).2.1
    else none
def rfirst (s : ByteArray) (gen : Int) : Bool := (rg gen s).2.2 && (rg gen (rg gen s).2.1).2.2 && (rg gen (rg gen (rg gen s).2.1).2.1).2.2 && decide ((rg gen s).1 ≤ 999999) && decide ((rg gen (rg gen s).2.1).1 ≤ 999999) && decide ((rg gen (rg gen (rg gen s).2.1).2.1).1 ≤ 40)
def rmeta (s : ByteArray) (gen : Int) (l : List Int) : M := ⟨gen, ((rg gen s).1 : Nat), if gen = 3 then ((rg gen s).1 : Int) - ((rg gen (rg gen s).2.1).1 : Nat) else ((rg gen (rg gen s).2.1).1 : Nat), l⟩
def rread (s : ByteArray) (gen : Int) : M × Bool :=
  if rfirst s gen = true then
    match rrest gen (rg gen (rg gen (rg gen s).2.1).2.1).1 [] 0 (rg gen (rg gen (rg gen s).2.1).2.1).2.1 with
    | some (l, r) => (rmeta s gen l, decide (r = ByteArray.empty))
    | none => (zero, false)
  else (zero, false)
theorem rrest_put (gen : Int) : ∀ (l2 l1 : List Int) (last : Int), (∀ x ∈ l2, 0 ≤ x ∧ x ≤ 999999) → 0 ≤ last → last ≤ 999999 →
    rrest gen l2.length l1 last (nums gen (tells gen last l2)) = some (l1 ++ l2, ByteArray.empty)
  | [], l1, last, _, _, _ => by simp [rrest, tells, nums]
  | x :: l2, l1, last, hm, h0, h1 => by
    have hx := hm x (List.mem_cons_self ..)
    have hzig := Num.zig_lt (x - last) (by omega) (by omega)
    have ha : rg gen (nums gen (tells gen last (x :: l2))) = (if gen = 3 then Num.zig (x - last) else x.toNat, nums gen (tells gen x l2), true) := by
      simp only [tells, nums]
      exact rg_one gen _ (by split <;> omega) _
    have he : (if gen = 3 then wrap64 (Num.zag (if gen = 3 then Num.zig (x - last) else x.toNat) + last) else wrap64 (((if gen = 3 then Num.zig (x - last) else x.toNat) : Nat) : Int)) = x := by
      by_cases h3 : gen = 3
      · rw [if_pos h3, if_pos h3, Num.zag_zig, w64 _ (by omega) (by omega)]; omega
      · rw [if_neg h3, if_neg h3, w64 _ (by omega) (by omega)]; omega
    rw [List.length_cons, rrest, ha]
    simp only [if_true, he]
    rw [rrest_put gen l2 (l1 ++ [x]) x (fun y hy => hm y (List.mem_cons_of_mem _ hy)) hx.1 hx.2]
    simp
theorem rread_body (m : M) (h : valid m = true) : rread (body m) m.gen = (m, true) := by
  obtain ⟨o1, o2, o3, o4, o5⟩ := valid_okay h
  obtain ⟨w1, w2⟩ := valid_wal h
  have hm := valid_mem h
  have hlt : (if m.gen = 3 then m.next - m.wal else m.wal).toNat ≤ 999999 := by split <;> omega
  have e1 : rg m.gen (body m) = (m.next.toNat, one m.gen (if m.gen = 3 then m.next - m.wal else m.wal).toNat ++ (one m.gen m.bs.length ++ nums m.gen (tells m.gen 0 m.bs)), true) := by
    rw [show body m = one m.gen m.next.toNat ++ (one m.gen (if m.gen = 3 then m.next - m.wal else m.wal).toNat ++ (one m.gen m.bs.length ++ nums m.gen (tells m.gen 0 m.bs))) from by simp [body, code, head3, nums]]
    exact rg_one _ _ (by omega) _
  have e2 := rg_one m.gen (if m.gen = 3 then m.next - m.wal else m.wal).toNat (by omega) (one m.gen m.bs.length ++ nums m.gen (tells m.gen 0 m.bs))
  have e3 := rg_one m.gen m.bs.length (by omega) (nums m.gen (tells m.gen 0 m.bs))
  have hr := rrest_put m.gen m.bs [] 0 (fun x hx => ⟨(hm x hx).1, by have := (hm x hx).2; omega⟩) (by omega) (by omega)
  have hf : rfirst (body m) m.gen = true := by
    unfold rfirst
    rw [e1]; simp only; rw [e2]; simp only; rw [e3]
    simp
    omega
  unfold rread
  rw [if_pos hf]
  unfold rmeta
  rw [e1]; simp only; rw [e2]; simp only; rw [e3]; simp only; rw [hr]
  have e4 : ((m.next.toNat : Nat) : Int) = m.next := by omega
  have e5 : (if m.gen = 3 then m.next - (((if m.gen = 3 then m.next - m.wal else m.wal).toNat : Nat) : Int) else (((if m.gen = 3 then m.next - m.wal else m.wal).toNat : Nat) : Int)) = m.wal := by
    by_cases h3 : m.gen = 3
    · rw [if_pos h3, if_pos h3]; omega
    · rw [if_neg h3, if_neg h3]; omega
  simp only [e4, e5, List.nil_append, decide_true]
/-- what the document's answer gets -/
def rgot (s : ByteArray) : M × Nat :=
  if (Fr.opened s amet).2.2.2 ≠ 0 then (zero, (Fr.opened s amet).2.2.2)
  else if (Fr.get (Fr.opened s amet).2.2.1 1000).2.2 ≠ 0 ∨ (Fr.get (Fr.opened s amet).2.2.1 1000).2.1 ≠ ByteArray.empty then (zero, 9)
  else if (rread (Fr.get (Fr.opened s amet).2.2.1 1000).1 ((Fr.opened s amet).1 : Nat)).2 = true ∧ valid (rread (Fr.get (Fr.opened s amet).2.2.1 1000).1 ((Fr.opened s amet).1 : Nat)).1 = true ∧ bytes (rread (Fr.get (Fr.opened s amet).2.2.1 1000).1 ((Fr.opened s amet).1 : Nat)).1 = s then ((rread (Fr.get (Fr.opened s amet).2.2.1 1000).1 ((Fr.opened s amet).1 : Nat)).1, 0)
  else (zero, 9)
theorem rgot_bytes (m : M) (h : valid m = true) : rgot (bytes m) = (m, 0) := by
  obtain ⟨o1, o2, _⟩ := valid_okay h
  have hz := body_size m (valid_okay h).2.2.2.2
  have hg : ((m.gen.toNat : Nat) : Int) = m.gen := by omega
  unfold rgot
  simp only [opened_bytes m h]
  rw [if_neg (by simp)]
  simp only [get_body m h 1000 (by omega), hg, rread_body m h]
  rw [if_neg (by simp), if_pos (by simp [h])]
theorem rgot_got (s : ByteArray) : rgot s = got s := by
  by_cases h : (got s).2 = 0
  · obtain ⟨h1, h2⟩ := got_yes s h
    have h3 := rgot_bytes _ h1
    have h4 := got_bytes _ h1
    rw [h2] at h3 h4
    rw [h3, h4]
  · by_cases h0 : (Fr.opened s amet).2.2.2 = 0
    · have hn := got_no s h
      have e9 : got s = (zero, 9) := by
        have : (got s).2 = 9 := by
          unfold got at h ⊢
          rw [if_neg (by simpa using h0)] at h ⊢
          split at h
          · exact absurd rfl h
          · rename_i h1; rw [if_neg h1]
        exact Prod.ext hn.1 this
      rw [e9]
      unfold rgot
      rw [if_neg (by simpa using h0)]
      split
      · rfl
      · split
        · rename_i h1
          have h5 := got_bytes _ h1.2.1
          rw [h1.2.2, e9] at h5
          exact absurd (congrArg Prod.snd h5) (by simp)
        · rfl
    · unfold rgot got
      rw [if_pos h0, if_pos h0]
end Me
end Go.Proofs.YtokofifecdpmfaaDoor
