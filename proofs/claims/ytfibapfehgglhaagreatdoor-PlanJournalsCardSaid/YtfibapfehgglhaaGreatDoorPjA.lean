import Derived.Test.YtfibapfehgglhaaGreatDoorFrH
import Derived.Test.YtfibapfehgglhaaGreatDoorMeN
/-
  What the functions of package frame, and of its reference, come to: Open.
-/
namespace Go.Proofs.YtfibapfehgglhaaGreatDoor
open Go.RowKit

set_option maxRecDepth 100000 in
set_option maxHeartbeats 400000 in
theorem hasPrefix_any (s p : ByteArray) (hl : p.size ≤ s.size) (b : Bool) (hb : decide (s.extract 0 p.size = p) = b) (w : World) :
    Calls Tryz.prog 29 #[.string s, .string p] w fun e w' => e = .returned (.bool b) ∧ w = w' := by
  rw [← str_beq] at hb
  go_enter Tryz.func29, Tryz.ntmps29
  go_wp2
  go_ret
  exact ⟨rfl, rfl⟩

/-- four results -/
def Four (s magic : ByteArray) (w : World) (e : Ending) (w' : World) : Prop :=
  e = .returned (.tuple #[.int .i64 ((Fr.opened s magic).1 : Nat), .int .i64 ((Fr.opened s magic).2.1 : Nat), .string (Fr.opened s magic).2.2.1, .int .i64 ((Fr.opened s magic).2.2.2 : Nat)]) ∧ Below w.heap.size w w'

set_option maxRecDepth 100000 in
set_option maxHeartbeats 1000000 in
theorem Open_any (s : ByteArray) (hs : s.size ≤ maxLen) (magic : ByteArray) (hm : magic.size ≤ 1099511627776) (w : World) :
    Calls Tryz.prog 12 #[.string s, .string magic] w (Four s magic w) := by
  have hsz := hs
  unfold maxLen at hsz
  obtain ⟨n, hn⟩ : ∃ n, magic.size + 2 = n := ⟨_, rfl⟩
  by_cases h1 : s.size < n + 4
  · have ho : Fr.opened s magic = (0, 0, ByteArray.empty, 9) := by unfold Fr.opened; rw [hn, if_pos h1]
    unfold Four
    rw [ho]
    have d1 : decide ((s.size : Int) < (magic.size : Int) + 2 + 4) = true := by simp; omega
    clear ho
    have HN := Lib.hid hn; clear hn
    go_enter Tryz.func12, Tryz.ntmps12
    go_wp2_with fail
    exact bodyPost_ret (v := .tuple #[.int .i64 0, .int .i64 0, .string ByteArray.empty, .int .i64 9]) (by simp [results, Tryz.results12, go_sem]; rfl) rfl ⟨rfl, Below.refl _ _⟩
  · have d1 : decide ((s.size : Int) < (magic.size : Int) + 2 + 4) = false := by simp; omega
    by_cases h2 : s.extract 0 magic.size = magic
    · have hp := hasPrefix_any s magic (by omega) true (by simpa using h2)
      have hgd := Fr.good_ext s n (by omega)
      have HP := Lib.hid hp
      have hz4 : (s.extract 0 (n + 4)).size = n + 4 := by rw [ByteArray.size_extract]; omega
      have hGood := Good_any (s.extract 0 (n + 4)) (by unfold maxLen; omega)
      have hle : ((n + 4 : Nat) : Int) ≤ s.size := by omega
      have e46 : (magic.size : Int) + 2 + 4 = ((n + 4 : Nat) : Int) := by omega
      by_cases h3 : s.extract n (n + 4) = Crc.four (Crc.ofB (s.extract 0 n))
      · rw [if_pos h3] at hgd
        rw [hgd] at hGood
        obtain ⟨g, hg⟩ : ∃ g, Fr.at_ s magic.size = g := ⟨_, rfl⟩
        obtain ⟨f, hf⟩ : ∃ f, Fr.at_ s (magic.size + 1) = f := ⟨_, rfl⟩
        have hgl : g < 256 := by rw [← hg]; exact Fr.at_lt _ _
        have hfl : f < 256 := by rw [← hf]; exact Fr.at_lt _ _
        have hbz : (s.extract 0 n).size = magic.size + 2 := by rw [ByteArray.size_extract]; omega
        have ho : Fr.opened s magic = if 3 < g ∨ 3 < f then (0, 0, ByteArray.empty, 10) else if g = 0 then (0, 0, ByteArray.empty, 9) else (g, f, s.extract (n + 4) s.size, 0) := by
          unfold Fr.opened; rw [hn, if_neg h1, if_neg (fun e => e h2), if_neg (fun e => e h3), hg, hf]
        have hnot := Fr.not3 ⟨f, hfl⟩
        simp only at hnot
        have i1 : ((magic.size : Int) + 1).toNat = magic.size + 1 := by omega
        have i2 : IntKind.i64.wrap ((magic.size : Int) + 1) = (magic.size : Int) + 1 := IntWalk.i64_in _ (by omega)
        have i3 : (0 : Int) ≤ (magic.size : Int) + 1 := by omega
        have i4 : (magic.size : Int) + 1 < ((s.extract 0 n).size : Nat) := by omega
        have i5 : (magic.size : Int) < ((s.extract 0 n).size : Nat) := by omega
        have i6 : magic.size < (s.extract 0 n).size := by omega
        have i7 : magic.size + 1 < (s.extract 0 n).size := by omega
        have hb0 : ((s.extract 0 n)[magic.size]'i6).toNat = g := by rw [Fr.at_eq _ _ (by omega), Fr.at_ext _ _ _ (by omega), hg]
        have hb1 : ((s.extract 0 n)[magic.size + 1]'i7).toNat = f := by rw [Fr.at_eq _ _ (by omega), Fr.at_ext _ _ _ (by omega), hf]
        have wg : IntKind.i64.wrap (g : Int) = g := IntWalk.i64_in _ (by omega)
        have wf : IntKind.i64.wrap (f : Int) = f := IntWalk.i64_in _ (by omega)
        unfold Four
        rw [ho]
        have HG := Lib.hid hGood
        have HN := Lib.hid hn
        have HNOT := Lib.hid hnot
        clear ho h3 h2 hgd hGood hp hz4 hsz hs hg hf hn hbz hnot
        generalize s.extract 0 n = b at *
        generalize hnn : n + 4 = n4 at *
        have HNN := Lib.hid hnn; clear hnn
        generalize hrest : s.extract n4 s.size = rest at *
        have HR := Lib.hid hrest; clear hrest
        by_cases hg3 : 3 < g
        · rw [if_pos (.inl hg3)]
          have dg : decide (3 < (g : Int)) = true := by simp; omega
          clear hg3
          go_enter Tryz.func12, Tryz.ntmps12
          go_wp2_with fail
          refine (HP.out _).mono ?_; rintro e wx ⟨rfl, rfl⟩
          go_wp2_with fail
          refine (HG.out _).mono ?_; rintro e w2 ⟨rfl, hb2⟩
          have HB2 := Lib.hid hb2; clear hb2
          go_wp2_with fail
          go_quiet (fail)
          go_wp2_with fail
          exact bodyPost_ret (v := .tuple #[.int .i64 0, .int .i64 0, .string ByteArray.empty, .int .i64 10]) (by simp [results, Tryz.results12, go_sem]; rfl) rfl ⟨rfl, below_drewN HB2.out _⟩
        · have dg : decide (3 < (g : Int)) = false := by simp; omega
          by_cases hf3 : 3 < f
          · rw [if_pos (.inr hf3)]
            have df : (bits BinOp.andNot IntKind.i64 (f : Int) 3 != 0) = true := by rw [HNOT.out]; simpa using hf3
            clear hf3 hg3
            go_enter Tryz.func12, Tryz.ntmps12
            go_wp2_with fail
            refine (HP.out _).mono ?_; rintro e wx ⟨rfl, rfl⟩
            go_wp2_with fail
            refine (HG.out _).mono ?_; rintro e w2 ⟨rfl, hb2⟩
            have HB2 := Lib.hid hb2; clear hb2
            go_wp2_with fail
            go_quiet (fail)
            go_wp2_with fail
            exact bodyPost_ret (v := .tuple #[.int .i64 0, .int .i64 0, .string ByteArray.empty, .int .i64 10]) (by simp [results, Tryz.results12, go_sem]; rfl) rfl ⟨rfl, below_drewN HB2.out _⟩
          · have df : (bits BinOp.andNot IntKind.i64 (f : Int) 3 != 0) = false := by rw [HNOT.out]; simpa using hf3
            rw [if_neg (by omega)]
            by_cases hg0 : g = 0
            · rw [if_pos hg0]
              have d0 : ((g : Int) == 0) = true := by simp; omega
              clear hf3 hg3 hg0
              go_enter Tryz.func12, Tryz.ntmps12
              go_wp2_with fail
              refine (HP.out _).mono ?_; rintro e wx ⟨rfl, rfl⟩
              go_wp2_with fail
              refine (HG.out _).mono ?_; rintro e w2 ⟨rfl, hb2⟩
              have HB2 := Lib.hid hb2; clear hb2
              go_wp2_with fail
              go_quiet (fail)
              go_wp2_with fail
              exact bodyPost_ret (v := .tuple #[.int .i64 0, .int .i64 0, .string ByteArray.empty, .int .i64 9]) (by simp [results, Tryz.results12, go_sem]; rfl) rfl ⟨rfl, below_drewN HB2.out _⟩
            · rw [if_neg hg0]
              have d0 : ((g : Int) == 0) = false := by simp; omega
              clear hf3 hg3 hg0
              have hrest := HR.out
              have hle0 : (0 : Int) ≤ (n4 : Int) := by omega
              go_enter Tryz.func12, Tryz.ntmps12
              go_wp2_with fail
              refine (HP.out _).mono ?_; rintro e wx ⟨rfl, rfl⟩
              go_wp2_with fail
              refine (HG.out _).mono ?_; rintro e w2 ⟨rfl, hb2⟩
              have HB2 := Lib.hid hb2; clear hb2
              go_wp2_with fail
              go_quiet (fail)
              go_wp2_with fail
              go_quiet (fail)
              go_wp2_with fail
              exact bodyPost_ret (v := .tuple #[.int .i64 g, .int .i64 f, .string rest, .int .i64 0]) (by simp [results, Tryz.results12, go_sem]) rfl ⟨rfl, below_drewN (below_drewN HB2.out _) _⟩
      · rw [if_neg h3] at hgd
        rw [hgd] at hGood
        have ho : Fr.opened s magic = (0, 0, ByteArray.empty, 9) := by unfold Fr.opened; rw [hn, if_neg h1, if_neg (fun e => e h2), if_pos h3]
        unfold Four
        rw [ho]
        have HG := Lib.hid hGood
        clear ho h3 h2 hgd hGood hp hz4 hsz hs
        have HN := Lib.hid hn; clear hn
        generalize hnn : n + 4 = n4 at *
        have HNN := Lib.hid hnn; clear hnn
        go_enter Tryz.func12, Tryz.ntmps12
        go_wp2_with fail
        refine (HP.out _).mono ?_; rintro e wx ⟨rfl, rfl⟩
        go_wp2_with fail
        refine (HG.out _).mono ?_; rintro e w2 ⟨rfl, hb2⟩
        have HB2 := Lib.hid hb2; clear hb2
        go_wp2_with fail
        exact bodyPost_ret (v := .tuple #[.int .i64 0, .int .i64 0, .string ByteArray.empty, .int .i64 9]) (by simp [results, Tryz.results12, go_sem]; rfl) rfl ⟨rfl, HB2.out⟩
    · have hp := hasPrefix_any s magic (by omega) false (by simpa using h2)
      have ho : Fr.opened s magic = (0, 0, ByteArray.empty, 9) := by unfold Fr.opened; rw [hn, if_neg h1, if_pos h2]
      unfold Four
      rw [ho]
      have HP := Lib.hid hp
      clear ho h2 hp
      have HN := Lib.hid hn; clear hn
      go_enter Tryz.func12, Tryz.ntmps12
      go_wp2_with fail
      refine (HP.out _).mono ?_; rintro e wx ⟨rfl, rfl⟩
      go_wp2_with fail
      exact bodyPost_ret (v := .tuple #[.int .i64 0, .int .i64 0, .string ByteArray.empty, .int .i64 9]) (by simp [results, Tryz.results12, go_sem]; rfl) rfl ⟨rfl, Below.refl _ _⟩
end Go.Proofs.YtfibapfehgglhaaGreatDoor
/-
  A journal: what it has, and what any bytes are as one; what a head tells, whatever its number is.
-/
namespace Go.Proofs.YtfibapfehgglhaaGreatDoor
open Go.RowKit
namespace Fr
theorem opened_byte (magic r : ByteArray) (g : Int) (hg : 0 ≤ g ∧ g ≤ 255) : opened (head magic g 0 ++ r) magic = if 3 < g.toNat then (0, 0, ByteArray.empty, 10) else if g.toNat = 0 then (0, 0, ByteArray.empty, 9) else (g.toNat, 0, r, 0) := by
  have h2 := two_size g 0
  have h4 := Crc.four_size (Crc.ofB (magic ++ two g 0))
  have hz := head_size magic g 0
  have hm2 : (magic ++ two g 0).size = magic.size + 2 := by rw [ByteArray.size_append, h2]
  obtain ⟨t0, t1⟩ := at_two g 0 (by omega) (by omega)
  have e1 : (head magic g 0 ++ r).extract 0 magic.size = magic := by
    unfold head
    rw [ByteArray.append_assoc, ByteArray.append_assoc]
    exact Num.take_app _ _
  have e2 : (head magic g 0 ++ r).extract (magic.size + 2) (magic.size + 2 + 4) = Crc.four (Crc.ofB (magic ++ two g 0)) := by
    have := ext_mid (magic ++ two g 0) (Crc.four (Crc.ofB (magic ++ two g 0))) r
    rw [hm2, h4] at this
    exact this
  have e3 : (head magic g 0 ++ r).extract 0 (magic.size + 2) = magic ++ two g 0 := by
    unfold head
    rw [ByteArray.append_assoc, ← hm2]
    exact Num.take_app _ _
  have e4 : (head magic g 0 ++ r).extract (magic.size + 2 + 4) (head magic g 0 ++ r).size = r := by
    have := Num.drop_app (head magic g 0) r
    rw [hz] at this
    exact this
  have a0 : at_ (head magic g 0 ++ r) magic.size = g.toNat := by
    unfold head
    rw [ByteArray.append_assoc, ByteArray.append_assoc]
    have := at_right magic (two g 0 ++ (Crc.four (Crc.ofB (magic ++ two g 0)) ++ r)) 0
    rw [Nat.add_zero] at this
    rw [this, at_left _ _ _ (by omega), t0]
  have a1 : at_ (head magic g 0 ++ r) (magic.size + 1) = 0 := by
    unfold head
    rw [ByteArray.append_assoc, ByteArray.append_assoc, at_right magic _ 1, at_left _ _ _ (by omega), t1]
    rfl
  unfold opened
  rw [if_neg (by rw [ByteArray.size_append, hz]; omega), e1, if_neg (by simp), e2, e3, if_neg (by simp), a0, a1, e4]
  simp
end Fr
namespace Pj
/-- what a journal begins with -/
def jnl : ByteArray := ⟨#[65, 74, 78, 76]⟩
def journal (g : Int) : ByteArray := Fr.head jnl g 0
theorem journal_size (g : Int) : (journal g).size = 10 := Fr.head_size jnl g 0
/-- what bytes are as a journal -/
def jread (s : ByteArray) : Nat × Nat :=
  if (Fr.opened s jnl).2.2.2 ≠ 0 then (0, (Fr.opened s jnl).2.2.2) else if s = journal (Fr.opened s jnl).1 then ((Fr.opened s jnl).1, 0) else (0, 9)
theorem jread_more (g : Int) (hg : 0 ≤ g ∧ g ≤ 255) (r : ByteArray) : jread (journal g ++ r) = if 3 < g.toNat then (0, 10) else if g.toNat = 0 then (0, 9) else if r.size = 0 then (g.toNat, 0) else (0, 9) := by
  have h := Fr.opened_byte jnl r g hg
  unfold jread
  rw [show Fr.opened (journal g ++ r) jnl = _ from h]
  by_cases h3 : 3 < g.toNat
  · simp [h3]
  · by_cases h0 : g.toNat = 0
    · simp [h0]
    · have hgg : ((g.toNat : Nat) : Int) = g := by omega
      simp only [if_neg h3, if_neg h0, ne_eq, not_true_eq_false, if_false, hgg]
      have e : (journal g ++ r = journal g) ↔ r.size = 0 := by
        constructor
        · intro h
          have := congrArg ByteArray.size h
          rw [ByteArray.size_append] at this
          omega
        · intro h
          have : r = ByteArray.empty := by
            apply ByteArray.ext
            exact Array.eq_empty_of_size_eq_zero h
          rw [this, ByteArray.append_empty]
      by_cases hr : r.size = 0
      · rw [if_pos (e.2 hr), if_pos hr]
      · rw [if_neg (fun h => hr (e.1 h)), if_neg hr]
theorem jread_own (g : Int) (hg : 0 ≤ g ∧ g ≤ 255) : jread (journal g) = if 3 < g.toNat then (0, 10) else if g.toNat = 0 then (0, 9) else (g.toNat, 0) := by
  have h := jread_more g hg ByteArray.empty
  rw [ByteArray.append_empty] at h
  rw [h, if_pos (show ByteArray.empty.size = 0 from rfl)]
end Pj
set_option maxRecDepth 100000 in
theorem Journal_any (g : Int) (w : World) : Calls Tryz.prog 6 #[.int .i64 g] w fun e w' => e = .returned (.string (Pj.journal g)) ∧ Below w.heap.size w w' := by
  have HC := Lib.hid (Head_any Pj.jnl (by decide) g 0 w)
  have hj : Fr.head Pj.jnl g 0 = Pj.journal g := rfl
  rw [hj] at HC
  go_enter Tryz.func6, Tryz.ntmps6
  go_wp2_with fail
  refine HC.out.mono ?_; rintro e w1 ⟨rfl, hb1⟩
  have HB1 := Lib.hid hb1
  clear hb1 HC hj
  go_wp2_with fail
  go_ret
  exact ⟨rfl, HB1.out⟩
set_option maxRecDepth 100000 in
set_option maxHeartbeats 4000000 in
theorem jRead_any (s : ByteArray) (hs : s.size ≤ maxLen) (w : World) : Calls Tryz.prog 5 #[.string s] w fun e w' => e = .returned (.tuple #[.int .i64 ((Pj.jread s).1 : Nat), .int .i64 ((Pj.jread s).2 : Nat)]) ∧ Below w.heap.size w w' := by
  have HO := Lib.hid (Open_any s hs Pj.jnl (by decide) w)
  unfold Four at HO
  have HJ := Lib.hid (show Pj.jread s = if (Fr.opened s Pj.jnl).2.2.2 ≠ 0 then (0, (Fr.opened s Pj.jnl).2.2.2) else if s = Pj.journal (Fr.opened s Pj.jnl).1 then ((Fr.opened s Pj.jnl).1, 0) else (0, 9) from rfl)
  generalize Pj.jread s = R at *
  generalize (Fr.opened s Pj.jnl).1 = a1 at *
  generalize (Fr.opened s Pj.jnl).2.1 = a2 at *
  generalize (Fr.opened s Pj.jnl).2.2.1 = a3 at *
  generalize (Fr.opened s Pj.jnl).2.2.2 = a4 at *
  go_enter Tryz.func5, Tryz.ntmps5
  go_wp2_with fail
  refine HO.out.mono ?_; rintro e w1 ⟨rfl, hb1⟩
  have HB1 := Lib.hid hb1
  clear hb1 HO
  by_cases h0 : a4 = 0
  · subst h0
    have hj := HJ.out
    rw [if_neg (by simp)] at hj
    have HC := Lib.hid (Journal_any (a1 : Int) w1)
    by_cases hs2 : s = Pj.journal (a1 : Int)
    · rw [if_pos hs2] at hj
      rw [← hs2] at HC
      have HJ2 := Lib.hid hj
      have b0 : (s.toList == s.toList) = true := beq_self_eq_true _
      clear hj HJ hs2
      go_wp2_with fail
      refine HC.out.mono ?_; rintro e w2 ⟨rfl, hb2⟩
      have HB2 := Lib.hid (below_step HB1.out hb2)
      clear hb2 HC HB1
      go_wp2_with fail
      go_ret2
      rw [HJ2.out]
      exact ⟨rfl, HB2.out⟩
    · rw [if_neg hs2] at hj
      have HJ2 := Lib.hid hj
      have b0 : (s.toList == (Pj.journal (a1 : Int)).toList) = false := by rw [str_beq]; exact decide_eq_false hs2
      clear hj HJ hs2
      generalize Pj.journal (a1 : Int) = jn at *
      go_wp2_with fail
      refine HC.out.mono ?_; rintro e w2 ⟨rfl, hb2⟩
      have HB2 := Lib.hid (below_step HB1.out hb2)
      clear hb2 HC HB1
      go_wp2_with fail
      go_ret2
      rw [HJ2.out]
      exact ⟨rfl, HB2.out⟩
  · have hj := HJ.out
    rw [if_pos h0] at hj
    have HJ2 := Lib.hid hj
    have b0 : (((a4 : Nat) : Int) != 0) = true := by simp; omega
    have b1 : (((a4 : Nat) : Int) == 0) = false := by simp; omega
    clear hj HJ h0
    go_wp2_with fail
    go_ret2
    rw [HJ2.out]
    exact ⟨rfl, HB1.out⟩
end Go.Proofs.YtfibapfehgglhaaGreatDoor
