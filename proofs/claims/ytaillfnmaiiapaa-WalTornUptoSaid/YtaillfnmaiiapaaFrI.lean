/-
  What the functions of package frame, and of its reference, come to: Open.
-/
import Derived.Test.YtaillfnmaiiapaaFrH
namespace Go.Proofs.Ytaillfnmaiiapaa
open Go.RowKit

set_option maxRecDepth 100000 in
set_option maxHeartbeats 400000 in
theorem hasPrefix_any (s p : ByteArray) (hl : p.size ≤ s.size) (b : Bool) (hb : decide (s.extract 0 p.size = p) = b) (w : World) :
    Calls Try.prog 26 #[.string s, .string p] w fun e w' => e = .returned (.bool b) ∧ w = w' := by
  rw [← str_beq] at hb
  go_enter Try.func26, Try.ntmps26
  go_wp2
  go_ret
  exact ⟨rfl, rfl⟩

/-- four results -/
def Four (s magic : ByteArray) (w : World) (e : Ending) (w' : World) : Prop :=
  e = .returned (.tuple #[.int .i64 ((Fr.opened s magic).1 : Nat), .int .i64 ((Fr.opened s magic).2.1 : Nat), .string (Fr.opened s magic).2.2.1, .int .i64 ((Fr.opened s magic).2.2.2 : Nat)]) ∧ Below w.heap.size w w'

set_option maxRecDepth 100000 in
set_option maxHeartbeats 1000000 in
theorem Open_any (s : ByteArray) (hs : s.size ≤ maxLen) (magic : ByteArray) (hm : magic.size ≤ 1099511627776) (w : World) :
    Calls Try.prog 19 #[.string s, .string magic] w (Four s magic w) := by
  have hsz := hs
  unfold maxLen at hsz
  obtain ⟨n, hn⟩ : ∃ n, magic.size + 2 = n := ⟨_, rfl⟩
  by_cases h1 : s.size < n + 4
  · have ho : Fr.opened s magic = (0, 0, ByteArray.empty, 9) := by unfold Fr.opened; rw [hn, if_pos h1]
    unfold Four
    rw [ho]
    have d1 : decide ((s.size : Int) < (magic.size : Int) + 2 + 4) = true := by simp; omega
    clear ho
    have HN := Lib.hid hn; clear hn
    go_enter Try.func19, Try.ntmps19
    go_wp2_with fail
    exact bodyPost_ret (v := .tuple #[.int .i64 0, .int .i64 0, .string ByteArray.empty, .int .i64 9]) (by simp [results, Try.results19, go_sem]; rfl) rfl ⟨rfl, Below.refl _ _⟩
  · have d1 : decide ((s.size : Int) < (magic.size : Int) + 2 + 4) = false := by simp; omega
    by_cases h2 : s.extract 0 magic.size = magic
    · have hp := hasPrefix_any s magic (by omega) true (by simpa using h2)
      have hgd := Fr.good_ext s n (by omega)
      have HP := Lib.hid hp
      have hz4 : (s.extract 0 (n + 4)).size = n + 4 := by rw [ByteArray.size_extract]; omega
      have hGood := Good_any (s.extract 0 (n + 4)) (by unfold maxLen; omega)
      have hle : ((n + 4 : Nat) : Int) ≤ s.size := by omega
      have e46 : (magic.size : Int) + 2 + 4 = ((n + 4 : Nat) : Int) := by omega
      by_cases h3 : s.extract n (n + 4) = Crc.four (Crc.ofB (s.extract 0 n))
      · rw [if_pos h3] at hgd
        rw [hgd] at hGood
        obtain ⟨g, hg⟩ : ∃ g, Fr.at_ s magic.size = g := ⟨_, rfl⟩
        obtain ⟨f, hf⟩ : ∃ f, Fr.at_ s (magic.size + 1) = f := ⟨_, rfl⟩
        have hgl : g < 256 := by rw [← hg]; exact Fr.at_lt _ _
        have hfl : f < 256 := by rw [← hf]; exact Fr.at_lt _ _
        have hbz : (s.extract 0 n).size = magic.size + 2 := by rw [ByteArray.size_extract]; omega
        have ho : Fr.opened s magic = if 3 < g ∨ 3 < f then (0, 0, ByteArray.empty, 10) else if g = 0 then (0, 0, ByteArray.empty, 9) else (g, f, s.extract (n + 4) s.size, 0) := by
          unfold Fr.opened; rw [hn, if_neg h1, if_neg (fun e => e h2), if_neg (fun e => e h3), hg, hf]
        have hnot := Fr.not3 ⟨f, hfl⟩
        simp only at hnot
        have i1 : ((magic.size : Int) + 1).toNat = magic.size + 1 := by omega
        have i2 : IntKind.i64.wrap ((magic.size : Int) + 1) = (magic.size : Int) + 1 := IntWalk.i64_in _ (by omega)
        have i3 : (0 : Int) ≤ (magic.size : Int) + 1 := by omega
        have i4 : (magic.size : Int) + 1 < ((s.extract 0 n).size : Nat) := by omega
        have i5 : (magic.size : Int) < ((s.extract 0 n).size : Nat) := by omega
        have i6 : magic.size < (s.extract 0 n).size := by omega
        have i7 : magic.size + 1 < (s.extract 0 n).size := by omega
        have hb0 : ((s.extract 0 n)[magic.size]'i6).toNat = g := by rw [Fr.at_eq _ _ (by omega), Fr.at_ext _ _ _ (by omega), hg]
        have hb1 : ((s.extract 0 n)[magic.size + 1]'i7).toNat = f := by rw [Fr.at_eq _ _ (by omega), Fr.at_ext _ _ _ (by omega), hf]
        have wg : IntKind.i64.wrap (g : Int) = g := IntWalk.i64_in _ (by omega)
        have wf : IntKind.i64.wrap (f : Int) = f := IntWalk.i64_in _ (by omega)
        unfold Four
        rw [ho]
        have HG := Lib.hid hGood
        have HN := Lib.hid hn
        have HNOT := Lib.hid hnot
        clear ho h3 h2 hgd hGood hp hz4 hsz hs hg hf hn hbz hnot
        generalize s.extract 0 n = b at *
        generalize hnn : n + 4 = n4 at *
        have HNN := Lib.hid hnn; clear hnn
        generalize hrest : s.extract n4 s.size = rest at *
        have HR := Lib.hid hrest; clear hrest
        by_cases hg3 : 3 < g
        · rw [if_pos (.inl hg3)]
          have dg : decide (3 < (g : Int)) = true := by simp; omega
          clear hg3
          go_enter Try.func19, Try.ntmps19
          go_wp2_with fail
          refine (HP.out _).mono ?_; rintro e wx ⟨rfl, rfl⟩
          go_wp2_with fail
          refine (HG.out _).mono ?_; rintro e w2 ⟨rfl, hb2⟩
          have HB2 := Lib.hid hb2; clear hb2
          go_wp2_with fail
          go_quiet (fail)
          go_wp2_with fail
          exact bodyPost_ret (v := .tuple #[.int .i64 0, .int .i64 0, .string ByteArray.empty, .int .i64 10]) (by simp [results, Try.results19, go_sem]; rfl) rfl ⟨rfl, below_drewN HB2.out _⟩
        · have dg : decide (3 < (g : Int)) = false := by simp; omega
          by_cases hf3 : 3 < f
          · rw [if_pos (.inr hf3)]
            have df : (bits BinOp.andNot IntKind.i64 (f : Int) 3 != 0) = true := by rw [HNOT.out]; simpa using hf3
            clear hf3 hg3
            go_enter Try.func19, Try.ntmps19
            go_wp2_with fail
            refine (HP.out _).mono ?_; rintro e wx ⟨rfl, rfl⟩
            go_wp2_with fail
            refine (HG.out _).mono ?_; rintro e w2 ⟨rfl, hb2⟩
            have HB2 := Lib.hid hb2; clear hb2
            go_wp2_with fail
            go_quiet (fail)
            go_wp2_with fail
            exact bodyPost_ret (v := .tuple #[.int .i64 0, .int .i64 0, .string ByteArray.empty, .int .i64 10]) (by simp [results, Try.results19, go_sem]; rfl) rfl ⟨rfl, below_drewN HB2.out _⟩
          · have df : (bits BinOp.andNot IntKind.i64 (f : Int) 3 != 0) = false := by rw [HNOT.out]; simpa using hf3
            rw [if_neg (by omega)]
            by_cases hg0 : g = 0
            · rw [if_pos hg0]
              have d0 : ((g : Int) == 0) = true := by simp; omega
              clear hf3 hg3 hg0
              go_enter Try.func19, Try.ntmps19
              go_wp2_with fail
              refine (HP.out _).mono ?_; rintro e wx ⟨rfl, rfl⟩
              go_wp2_with fail
              refine (HG.out _).mono ?_; rintro e w2 ⟨rfl, hb2⟩
              have HB2 := Lib.hid hb2; clear hb2
              go_wp2_with fail
              go_quiet (fail)
              go_wp2_with fail
              exact bodyPost_ret (v := .tuple #[.int .i64 0, .int .i64 0, .string ByteArray.empty, .int .i64 9]) (by simp [results, Try.results19, go_sem]; rfl) rfl ⟨rfl, below_drewN HB2.out _⟩
            · rw [if_neg hg0]
              have d0 : ((g : Int) == 0) = false := by simp; omega
              clear hf3 hg3 hg0
              have hrest := HR.out
              have hle0 : (0 : Int) ≤ (n4 : Int) := by omega
              go_enter Try.func19, Try.ntmps19
              go_wp2_with fail
              refine (HP.out _).mono ?_; rintro e wx ⟨rfl, rfl⟩
              go_wp2_with fail
              refine (HG.out _).mono ?_; rintro e w2 ⟨rfl, hb2⟩
              have HB2 := Lib.hid hb2; clear hb2
              go_wp2_with fail
              go_quiet (fail)
              go_wp2_with fail
              go_quiet (fail)
              go_wp2_with fail
              exact bodyPost_ret (v := .tuple #[.int .i64 g, .int .i64 f, .string rest, .int .i64 0]) (by simp [results, Try.results19, go_sem]) rfl ⟨rfl, below_drewN (below_drewN HB2.out _) _⟩
      · rw [if_neg h3] at hgd
        rw [hgd] at hGood
        have ho : Fr.opened s magic = (0, 0, ByteArray.empty, 9) := by unfold Fr.opened; rw [hn, if_neg h1, if_neg (fun e => e h2), if_pos h3]
        unfold Four
        rw [ho]
        have HG := Lib.hid hGood
        clear ho h3 h2 hgd hGood hp hz4 hsz hs
        have HN := Lib.hid hn; clear hn
        generalize hnn : n + 4 = n4 at *
        have HNN := Lib.hid hnn; clear hnn
        go_enter Try.func19, Try.ntmps19
        go_wp2_with fail
        refine (HP.out _).mono ?_; rintro e wx ⟨rfl, rfl⟩
        go_wp2_with fail
        refine (HG.out _).mono ?_; rintro e w2 ⟨rfl, hb2⟩
        have HB2 := Lib.hid hb2; clear hb2
        go_wp2_with fail
        exact bodyPost_ret (v := .tuple #[.int .i64 0, .int .i64 0, .string ByteArray.empty, .int .i64 9]) (by simp [results, Try.results19, go_sem]; rfl) rfl ⟨rfl, HB2.out⟩
    · have hp := hasPrefix_any s magic (by omega) false (by simpa using h2)
      have ho : Fr.opened s magic = (0, 0, ByteArray.empty, 9) := by unfold Fr.opened; rw [hn, if_neg h1, if_pos h2]
      unfold Four
      rw [ho]
      have HP := Lib.hid hp
      clear ho h2 hp
      have HN := Lib.hid hn; clear hn
      go_enter Try.func19, Try.ntmps19
      go_wp2_with fail
      refine (HP.out _).mono ?_; rintro e wx ⟨rfl, rfl⟩
      go_wp2_with fail
      exact bodyPost_ret (v := .tuple #[.int .i64 0, .int .i64 0, .string ByteArray.empty, .int .i64 9]) (by simp [results, Try.results19, go_sem]; rfl) rfl ⟨rfl, Below.refl _ _⟩
end Go.Proofs.Ytaillfnmaiiapaa
