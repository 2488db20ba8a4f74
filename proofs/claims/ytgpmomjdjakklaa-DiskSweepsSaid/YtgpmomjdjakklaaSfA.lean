/-
  How many survive; names; whole files; what a change of names does to a map.
-/
import Derived.Test.YtgpmomjdjakklaaSfM
import Derived.Test.YtgpmomjdjakklaaSfR
import Derived.Test.YtgpmomjdjakklaaArr
import Derived.Maps.OwnOps
import Derived.Maps.RangeWalk
import Derived.Maps.Ext
import Derived.StringKeys
namespace Go.Proofs.Ytgpmomjdjakklaa
open Go.RowKit
/-- what a file's pointer reads as -/
def ptrE : Value → Option (DataW Unit × List MemPlace)
  | .pointer (some ⟨h, 0, none⟩) => some (Sf.hd h, [])
  | .pointer none => some (Sf.nilD, [])
  | _ => none
theorem ptrE_some (h : Nat) : ptrE (.pointer (some ⟨h, 0, none⟩)) = some (Sf.hd h, []) := rfl
theorem ptrE_inv {v : Value} {z : DataW Unit × List MemPlace} (h : ptrE v = some z) : (∃ x, v = .pointer (some ⟨x, 0, none⟩) ∧ z = (Sf.hd x, [])) ∨ (v = .pointer none ∧ z = (Sf.nilD, [])) := by
  unfold ptrE at h
  split at h
  · cases h; exact .inl ⟨_, rfl, rfl⟩
  · cases h; exact .inr ⟨rfl, rfl⟩
  · cases h
theorem law : Go.Maps.Keyed Try.prog 9 := Go.Maps.string_keyed Try.underlying9
theorem keyS {s : ByteArray} (h : s.size ≤ maxLen) : keyOf Try.prog 9 (.string s) = some (Sf.key s) := Go.WideMaps.keyOf_string_mk Try.underlying9 h
/-- block b is a map of names -/
def NamesAt (w : World) (b : Nat) (d : Sf.D) : Prop := w.ownsMap Try.prog 9 ptrE b 1000000 d
theorem NamesAt.later {w w2 : World} {b : Nat} {d : Sf.D} (h : NamesAt w b d) (hb : Below w.heap.size w w2) : NamesAt w2 b d := h.kept (grown_of_below (row := none) hb) (by simp)
/-- .. told by how many names there are -/
theorem NamesAt.exact {w : World} {b : Nat} {d : Sf.D} (h : NamesAt w b d) : w.ownsMap Try.prog 9 ptrE b (Go.Maps.size d) d := by
  obtain ⟨es, clock, hb, F, _, rfl⟩ := h
  exact ⟨es, clock, hb, F, by simp [Go.Maps.size, Go.length_sorted], rfl⟩
theorem zeroPtr (w : World) : (zeroValue 60).run Try.prog w = .ok (.pointer none) w := by kernel_rfl
set_option maxRecDepth 100000 in
theorem share_any (A : Option Addr) (kn kc : Nat) (g : Nat → Int) (place n : Nat) (hn : n ≤ 1000000000) (hp : place ≤ 1000000000) (hkn : kn ≤ maxLen) (hg : ∀ i, i < kn → -9223372036854775808 ≤ g i ∧ g i ≤ 9223372036854775807) (w : World) (hA : Row 1 (fun i _ => .int .i64 (g i)) w A kn) :
    Calls Try.prog 37 #[.slice A kn kc, .int .i64 (place : Int), .int .i64 (n : Int)] w fun e w' => e = .returned (.int .i64 (Sf.share ⟨g, kn⟩ place n : Nat)) ∧ w' = w := by
  unfold maxLen at hkn
  by_cases h0 : kn = 0
  · subst h0
    have e : Sf.share ⟨g, 0⟩ place n = 0 := rfl
    rw [e]
    go_enter Try.func37, Try.ntmps37
    go_wp2_with fail
    go_ret
    exact ⟨rfl, rfl⟩
  · have hlt : place % kn < kn := Nat.mod_lt _ (by omega)
    obtain ⟨ad, rfl, c0, -⟩ := hA.at_ (Below.refl _ _) hlt
    have hgk := hg _ hlt
    have hsh : Sf.share ⟨g, kn⟩ place n = if g (place % kn) = -9223372036854775808 then 0 else (g (place % kn)).natAbs % (n + 1) := by
      unfold Sf.share
      rw [if_neg h0]
    rw [hsh]
    have x0 : w.cell? (ad.add (place % kn)) = some (.int .i64 (g (place % kn))) := by
      have h := c0 (by omega)
      rw [Nat.mul_one] at h; exact h
    have e1 : (place : Int).tmod (kn : Int) = ((place % kn : Nat) : Int) := by rw [Int.tmod_eq_emod_of_nonneg (by omega)]; rfl
    clear c0 hsh hg hA
    generalize place % kn = j at *
    generalize g j = x at *
    have i1 : (0 : Int) ≤ (j : Int) := by omega
    have i2 : (j : Int) < (kn : Int) := by omega
    have d0 : decide ((kn : Int) = 0) = false := decide_eq_false (by omega)
    have d0b : ((kn : Int) == 0) = false := by simpa using h0
    have n0 : ¬ (kn : Int) = 0 := by omega
    by_cases hm : x = -9223372036854775808
    · have d1 : decide (x = -9223372036854775808) = true := decide_eq_true hm
      have d1b : (x == -9223372036854775808) = true := by simpa using hm
      rw [if_pos hm]
      clear hm hgk
      go_enter Try.func37, Try.ntmps37
      go_wp2_with fail
      go_ret
      exact ⟨rfl, rfl⟩
    · have d1 : decide (x = -9223372036854775808) = false := decide_eq_false hm
      have d1b : (x == -9223372036854775808) = false := by simpa using hm
      rw [if_neg hm]
      have w1 : wrap64 (-x) = -x := IntWalk.wrap64_in _ (by omega)
      have w1b : wrap64 (0 - x) = -x := by rw [Int.zero_sub]; exact w1
      have w2 : wrap64 ((n : Int) + 1) = (n : Int) + 1 := IntWalk.wrap64_in _ (by omega)
      have n1 : ¬ (n : Int) + 1 = 0 := by omega
      have n2 : ((n : Int) + 1 == 0) = false := by simpa using n1
      by_cases hs : 0 ≤ x
      · have m1 : max x (-x) = x := by omega
        have w3 : x % ((n : Int) + 1) = ((x.natAbs % (n + 1) : Nat) : Int) := by
          have e : x = (x.natAbs : Int) := by omega
          rw [e]; rfl
        clear hm hgk
        go_enter Try.func37, Try.ntmps37
        go_wp2_with fail
        go_ret
        first | exact ⟨rfl, rfl⟩ | (refine ⟨?_, rfl⟩; rw [← w3]; rfl)
      · have m1 : max x (-x) = -x := by omega
        have w3 : (-x) % ((n : Int) + 1) = ((x.natAbs % (n + 1) : Nat) : Int) := by
          have e : -x = (x.natAbs : Int) := by omega
          rw [e]; rfl
        clear hm hgk
        go_enter Try.func37, Try.ntmps37
        go_wp2_with fail
        go_ret
        have w5 : -(x.tmod ((n : Int) + 1)) = (x.natAbs : Int) % ((n : Int) + 1) := by
          have e : -x = (x.natAbs : Int) := by omega
          rw [← Int.neg_tmod, e, Int.tmod_eq_emod_of_nonneg (by omega)]
        refine ⟨?_, rfl⟩
        show Ending.returned (.int .i64 (-(x.tmod ((n : Int) + 1)))) = .returned (.int .i64 ((x.natAbs : Int) % ((n : Int) + 1)))
        rw [w5]
theorem isEmpty_eq (s : ByteArray) : s.toList.isEmpty = decide (s.size = 0) := by
  rw [ByteArray.toList_eq]
  have h : s.data.toList.length = s.size := by simp
  cases hl : s.data.toList with
  | nil => rw [hl] at h; simp at h; simp [← h]
  | cons a l =>
    rw [hl, List.length_cons] at h
    rw [List.isEmpty_cons]
    exact (decide_eq_false (by omega)).symm
section
variable {w : World} {b : Nat} {d : Sf.D} {s : ByteArray} {x : Nat} {ops : Array Oper} {rest : List Oper} {o : Oper} {a : Act} {Q : Exit → Act → World → Prop}
set_option maxRecDepth 100000 in
theorem look_read (h : NamesAt w b d) (hf : Sf.Files d) (hs : s.size ≤ maxLen) (hl : Sf.look d s = some x) : (Instr.lookup 47 (.map (some b)) (.string s) false).run Try.prog w = .ok (.pointer (some ⟨x, 0, none⟩)) w := by
  obtain ⟨v, ps, hr, hv⟩ := h.lookup law Try.underlying47 (zeroPtr w) (show ptrE (.pointer none) = some (Sf.nilD, []) from rfl) (keyS hs)
  obtain ⟨y, hy, hat⟩ := Sf.look_has hf (Sf.look_some hl)
  rw [hl] at hy
  cases hy
  rw [hat] at hv
  rcases ptrE_inv hv with ⟨z, rfl, e⟩ | ⟨rfl, e⟩
  · injection e with e1 e2
    unfold Sf.hd at e1
    injection e1 with e1
    injection e1 with e0 e1
    have : x = z := Int.ofNat.inj e1
    rw [hr, this]
  · injection e with e1 e2
    unfold Sf.hd Sf.nilD at e1
    injection e1 with e1
    cases e1
set_option maxRecDepth 100000 in
theorem look_read_ok (h : NamesAt w b d) (hf : Sf.Files d) (hs : s.size ≤ maxLen) (hl : Sf.look d s = some x) : (Instr.lookup 47 (.map (some b)) (.string s) true).run Try.prog w = .ok (.tuple #[.pointer (some ⟨x, 0, none⟩), .bool true]) w := by
  obtain ⟨v, ps, hr, hv⟩ := h.look_ok law Try.underlying47 (zeroPtr w) (show ptrE (.pointer none) = some (Sf.nilD, []) from rfl) (keyS hs)
  obtain ⟨y, hy, hat⟩ := Sf.look_has hf (Sf.look_some hl)
  rw [hl] at hy
  cases hy
  rw [hat] at hv
  rcases ptrE_inv hv with ⟨z, rfl, e⟩ | ⟨rfl, e⟩
  · injection e with e1 e2
    unfold Sf.hd at e1
    injection e1 with e1
    injection e1 with e0 e1
    have : x = z := Int.ofNat.inj e1
    rw [hr, this, Sf.look_some hl]
  · injection e with e1 e2
    unfold Sf.hd Sf.nilD at e1
    injection e1 with e1
    cases e1
set_option maxRecDepth 100000 in
theorem look_read_no (h : NamesAt w b d) (hf : Sf.Files d) (hs : s.size ≤ maxLen) (hl : Sf.look d s = none) : (Instr.lookup 47 (.map (some b)) (.string s) true).run Try.prog w = .ok (.tuple #[.pointer none, .bool false]) w := by
  obtain ⟨v, ps, hr, hv⟩ := h.look_ok law Try.underlying47 (zeroPtr w) (show ptrE (.pointer none) = some (Sf.nilD, []) from rfl) (keyS hs)
  have hn := Sf.look_none hf hl
  rw [Go.Maps.atKey_of_not_has hn] at hv
  rcases ptrE_inv hv with ⟨z, rfl, e⟩ | ⟨rfl, e⟩
  · injection e with e1 e2
    unfold Sf.hd Sf.nilD at e1
    injection e1 with e1
    cases e1
  · rw [hr, hn]
end
set_option maxRecDepth 100000 in
theorem isName_any (s : ByteArray) (hs : s.size ≤ maxLen) (w : World) : Calls Try.prog 41 #[.string s] w fun e w' => e = .returned (.bool (decide (0 < s.size ∧ s.size ≤ 40))) ∧ w' = w := by
  unfold maxLen at hs
  by_cases h0 : s = ⟨#[]⟩
  · subst h0
    go_enter Try.func41, Try.ntmps41
    go_wp2_with fail
    go_ret
    exact ⟨rfl, rfl⟩
  · have hz : 0 < s.size := by
      rcases Nat.eq_zero_or_pos s.size with h | h
      · exact absurd (ByteArray.ext (Array.eq_empty_of_size_eq_zero h)) h0
      · exact h
    have hl2 : s.toList.isEmpty = false := by rw [isEmpty_eq]; exact decide_eq_false (by omega)
    have e : decide (0 < s.size ∧ s.size ≤ 40) = decide ((s.size : Int) ≤ 40) := by
      rw [decide_eq_decide]
      omega
    rw [e]
    clear e
    go_enter Try.func41, Try.ntmps41
    go_wp2_with fail
    go_ret
    exact ⟨rfl, rfl⟩
set_option maxRecDepth 100000 in
theorem whole_any (s : ByteArray) (w : World) : Calls Try.prog 52 #[.string s] w fun e w' => e = .returned (.agg #[.string s, .string s, .slice none 0 0]) ∧ Below w.heap.size w w' := by
  obtain ⟨w1, hw1⟩ : ∃ w1, w1 = w.alloc (.cells #[.string s, .string s, .slice none 0 0] 66) := ⟨_, rfl⟩
  have hb : Below w.heap.size w w1 := by rw [hw1]; exact (Below.refl _ _).alloc (Nat.le_refl _) _
  have hc : w1.heap[w.heap.size]? = some (.cells #[.string s, .string s, .slice none 0 0] 66 (0, 0)) := by rw [hw1]; exact heap_alloc_new w _
  have HB := Lib.hid hb; have HC := Lib.hid hc
  clear hb hc
  go_enter Try.func52, Try.ntmps52
  go_wp2_with fail
  rw [← hw1]
  clear hw1
  have r0 := cell_of_row _ _ 0 _ _ _ HC.out
  have r1 := cell_of_row _ _ 1 _ _ _ HC.out
  have r2 := cell_of_row _ _ 2 _ _ _ HC.out
  refine bodyPost_ret (v := .agg #[.string s, .string s, .slice none 0 0]) (by simp [results, go_sem, r0, r1, r2]) rfl ⟨rfl, HB.out⟩
set_option maxRecDepth 100000 in
theorem created_any (to : ByteArray) (h : Nat) (w : World) (b : Nat) (d : Sf.D) (hs : to.size ≤ maxLen) (hm : NamesAt w b d) (hz : Go.Maps.size d ≤ 1000) :
    Calls Try.prog 101 #[.agg #[.string to, .pointer (some ⟨h, 0, none⟩)], .map (some b)] w fun e w' => e = .returned (.tuple #[]) ∧ NamesAt w' b ((Sf.Nm.cre to h).app d) ∧ w.grownBy w' (some b) := by
  obtain ⟨w1, hw1⟩ : ∃ w1, w1 = w.alloc (.cells #[.string to, .pointer (some ⟨h, 0, none⟩)] 70) := ⟨_, rfl⟩
  have hb : Below w.heap.size w w1 := by rw [hw1]; exact (Below.refl _ _).alloc (Nat.le_refl _) _
  have hm1 := NamesAt.exact (hm.later hb)
  have HB := Lib.hid hb
  clear hb hm
  go_enter Try.func101, Try.ntmps101
  obtain ⟨w2, hrun, hown2, hturn2⟩ := hm1.store law Try.underlying47 (by unfold maxLen; omega) (keyS hs) (ptrE_some h)
  go_wp2_with fail
  rw [← hw1, hrun]
  clear hw1 hrun
  go_wp2_with fail
  go_end0
  exact ⟨rfl, hown2.mono (by omega), grown_trans (grown_of_below HB.out) hturn2.grown⟩
set_option maxRecDepth 100000 in
theorem removed_any (a : ByteArray) (w : World) (b : Nat) (d : Sf.D) (hs : a.size ≤ maxLen) (hm : NamesAt w b d) :
    Calls Try.prog 104 #[.agg #[.string a], .map (some b)] w fun e w' => e = .returned (.tuple #[]) ∧ NamesAt w' b ((Sf.Nm.rem a).app d) ∧ w.grownBy w' (some b) := by
  obtain ⟨w1, hw1⟩ : ∃ w1, w1 = w.alloc (.cells #[.string a] 78) := ⟨_, rfl⟩
  have hb : Below w.heap.size w w1 := by rw [hw1]; exact (Below.refl _ _).alloc (Nat.le_refl _) _
  have hm1 := hm.later hb
  have HB := Lib.hid hb
  clear hb hm
  obtain ⟨w2, hrun, hown2, hturn2⟩ := hm1.drop law Try.underlying47 (keyS hs) 0
  go_enter Try.func104, Try.ntmps104
  go_wp2_with fail
  rw [← hw1, hrun]
  clear hw1 hrun
  go_wp2_with fail
  go_end0
  exact ⟨rfl, hown2, grown_trans (grown_of_below HB.out) hturn2.grown⟩
set_option maxRecDepth 100000 in
theorem renamed_any (a c : ByteArray) (x : Nat) (w : World) (b : Nat) (d : Sf.D) (hs : a.size ≤ maxLen) (hc : c.size ≤ maxLen) (hm : NamesAt w b d) (hf : Sf.Files d) (ht : Go.Maps.Tidy d) (hl : Sf.look d a = some x) (hz : Go.Maps.size d ≤ 1000) :
    Calls Try.prog 105 #[.agg #[.string a, .string c], .map (some b)] w fun e w' => e = .returned (.tuple #[]) ∧ NamesAt w' b ((Sf.Nm.ren a c).app d) ∧ w.grownBy w' (some b) := by
  obtain ⟨w1, hw1⟩ : ∃ w1, w1 = w.alloc (.cells #[.string a, .string c] 82) := ⟨_, rfl⟩
  have hb : Below w.heap.size w w1 := by rw [hw1]; exact (Below.refl _ _).alloc (Nat.le_refl _) _
  have hm1 := hm.later hb
  have hc1 : w1.heap[w.heap.size]? = some (.cells #[.string a, .string c] 82 (0, 0)) := by rw [hw1]; exact heap_alloc_new w _
  have hlk := look_read hm1 hf hs hl
  obtain ⟨w2, hrun, hown2, hturn2⟩ := hm1.drop law Try.underlying47 (keyS hs) 0
  have hne : w.heap.size ≠ b := by
    rintro rfl
    obtain ⟨es, clock, h0, -⟩ := hm1
    rw [hc1] at h0
    cases h0
  have hc2 := grown_keep hc1 hturn2.grown hne
  have hsz : Go.Maps.size (d.del (Sf.key a)) ≤ 1000 := by
    have := Go.Maps.size_del (k := Sf.key a) ht
    omega
  obtain ⟨w3, hrun3, hown3, hturn3⟩ := (NamesAt.exact hown2).store law Try.underlying47 (by unfold maxLen; omega) (keyS hc) (ptrE_some x)
  have HB := Lib.hid hb
  have HO : Hid (NamesAt w3 b ((Sf.Nm.ren a c).app d)) := Lib.hid (by
    have e : (Sf.Nm.ren a c).app d = (d.del (Sf.key a)).put (Sf.key c) (Sf.hd x) := by simp only [Sf.Nm.app]; rw [hl]; rfl
    rw [e]
    exact hown3.mono (by omega))
  have HG := Lib.hid (grown_trans hturn2.grown hturn3.grown)
  have y1 : w2.cell? ⟨w.heap.size, 1, none⟩ = some (.string c) := cell_of_row _ _ _ _ _ _ hc2
  have x0 : w1.cell? ⟨w.heap.size, 0, none⟩ = some (.string a) := cell_of_row _ _ _ _ _ _ hc1
  clear hb hm hm1 hown2 hturn2 hown3 hturn3 hc1 hc2 hne hsz hf ht hl
  go_enter Try.func105, Try.ntmps105
  go_wp2_with fail
  rw [← hw1, hlk]
  simp only [Result.andThen, Oper.upon]
  go_wp2_with fail
  rw [← hw1, hrun]
  go_wp2_with fail
  go_end0
  exact ⟨rfl, HO.out, grown_trans (grown_of_below HB.out) HG.out⟩
set_option maxRecDepth 100000 in
theorem writeA_any (c b : ByteArray) (h : b.size + c.size ≤ 1000000000) (w : World) : Calls Try.prog 103 #[.agg #[.string c], .string b] w fun e w' => e = .returned (.string (b ++ c)) ∧ Below w.heap.size w w' := by
  have hz : ¬ 9223372036854775807 < b.size + c.size := by omega
  obtain ⟨w1, hw1⟩ : ∃ w1, w1 = w.alloc (.cells #[.string c] 74) := ⟨_, rfl⟩
  have HB : Hid (Below w.heap.size w w1) := Lib.hid (by rw [hw1]; exact (Below.refl _ _).alloc (Nat.le_refl _) _)
  go_enter Try.func103, Try.ntmps103
  go_wp2_with fail
  rw [← hw1]
  go_ret
  exact ⟨rfl, HB.out⟩
set_option maxRecDepth 100000 in
theorem writeC_any (n : Nat) (b : ByteArray) (h : n ≤ b.size) (w : World) : Calls Try.prog 107 #[.agg #[.int .i64 (n : Int)], .string b] w fun e w' => e = .returned (.string (b.extract 0 n)) ∧ Below w.heap.size w w' := by
  have h1 : (n : Int) ≤ (b.size : Int) := by omega
  have h0 : (0 : Int) ≤ (n : Int) := by omega
  obtain ⟨w1, hw1⟩ : ∃ w1, w1 = w.alloc (.cells #[.int .i64 (n : Int)] 96) := ⟨_, rfl⟩
  have HB : Hid (Below w.heap.size w w1) := Lib.hid (by rw [hw1]; exact (Below.refl _ _).alloc (Nat.le_refl _) _)
  go_enter Try.func107, Try.ntmps107
  go_wp2_with fail
  rw [← hw1]
  go_ret
  exact ⟨rfl, HB.out⟩
end Go.Proofs.Ytgpmomjdjakklaa
