/-
  What the functions of the reference of package frame come to: Open.
-/
import Derived.Test.YtokofifecdpmfaaGreatDoorFrI
namespace Go.Proofs.YtokofifecdpmfaaGreatDoor
open Go.RowKit

set_option maxRecDepth 100000 in
set_option maxHeartbeats 1000000 in
theorem rOpen_any (s : ByteArray) (hs : s.size ≤ maxLen) (magic : ByteArray) (hm : magic.size ≤ 1099511627776) (w : World) :
    Calls Tryz.prog 33 #[.string s, .string magic] w (Four s magic w) := by
  have hsz := hs
  unfold maxLen at hsz
  obtain ⟨n, hn⟩ : ∃ n, magic.size + 2 = n := ⟨_, rfl⟩
  by_cases h1 : s.size < n + 4
  · have ho : Fr.opened s magic = (0, 0, ByteArray.empty, 9) := by unfold Fr.opened; rw [hn, if_pos h1]
    unfold Four
    rw [ho]
    have d1 : decide ((s.size : Int) < (magic.size : Int) + 2 + 4) = true := by simp; omega
    clear ho
    have HN := Lib.hid hn; clear hn
    go_enter Tryz.func33, Tryz.ntmps33
    go_wp2_with fail
    exact bodyPost_ret (v := .tuple #[.int .i64 0, .int .i64 0, .string ByteArray.empty, .int .i64 9]) (by simp [results, Tryz.results33, go_sem]; rfl) rfl ⟨rfl, Below.refl _ _⟩
  · have d1 : decide ((s.size : Int) < (magic.size : Int) + 2 + 4) = false := by simp; omega
    have b1 : (magic.size : Int) ≤ s.size := by omega
    have b2 : (0 : Int) ≤ (magic.size : Int) := by omega
    have hpb := str_beq (s.extract 0 magic.size) magic
    by_cases h2 : s.extract 0 magic.size = magic
    · have hbp : (!((s.extract 0 magic.size).toList == magic.toList)) = false := by rw [hpb]; simpa using h2
      have hcb := str_beq (s.extract n (n + 4)) (Crc.four (Crc.ofB (s.extract 0 n)))
      have hTail := rTail_any (s.extract 0 n) (by unfold maxLen; rw [ByteArray.size_extract]; omega)
      have en : (magic.size : Int) + 2 = (n : Int) := by omega
      have hle : ((n : Nat) : Int) + 4 ≤ s.size := by omega
      have hle1 : ((n : Nat) : Int) ≤ s.size := by omega
      have hle2 : (0 : Int) ≤ (n : Int) := by omega
      have b3 : (0 : Int) ≤ (n : Int) + 4 := by omega
      have b4 : (n : Int) ≤ (n : Int) + 4 := by omega
      have w4 : IntKind.i64.wrap ((n : Int) + 4) = (n : Int) + 4 := IntWalk.i64_in _ (by omega)
      have i0 : ((n : Int) + 4).toNat = n + 4 := by omega
      by_cases h3 : s.extract n (n + 4) = Crc.four (Crc.ofB (s.extract 0 n))
      · have hbc : (!((s.extract n (n + 4)).toList == (Crc.four (Crc.ofB (s.extract 0 n))).toList)) = false := by rw [hcb]; simpa using h3
        obtain ⟨g, hg⟩ : ∃ g, Fr.at_ s magic.size = g := ⟨_, rfl⟩
        obtain ⟨f, hf⟩ : ∃ f, Fr.at_ s (magic.size + 1) = f := ⟨_, rfl⟩
        have hgl : g < 256 := by rw [← hg]; exact Fr.at_lt _ _
        have hfl : f < 256 := by rw [← hf]; exact Fr.at_lt _ _
        have ho : Fr.opened s magic = if 3 < g ∨ 3 < f then (0, 0, ByteArray.empty, 10) else if g = 0 then (0, 0, ByteArray.empty, 9) else (g, f, s.extract (n + 4) s.size, 0) := by
          unfold Fr.opened; rw [hn, if_neg h1, if_neg (fun e => e h2), if_neg (fun e => e h3), hg, hf]
        have i1 : ((n : Int) - 2).toNat = magic.size := by omega
        have i2 : ((n : Int) - 1).toNat = magic.size + 1 := by omega
        have i3 : (2 : Int) ≤ (n : Int) := by omega
        have i4 : (n : Int) - 2 < s.size := by omega
        have i5 : (n : Int) - 1 < s.size := by omega
        have i6 : magic.size < s.size := by omega
        have i7 : magic.size + 1 < s.size := by omega
        have i8 : (1 : Int) ≤ (n : Int) := by omega
        have hb0 : (s[magic.size]'i6).toNat = g := by rw [Fr.at_eq _ _ (by omega), hg]
        have hb1 : (s[magic.size + 1]'i7).toNat = f := by rw [Fr.at_eq _ _ (by omega), hf]
        unfold Four
        rw [ho]
        have HT := Lib.hid hTail
        have HN := Lib.hid hn
        clear ho h3 h2 hpb hcb hTail hsz hs hg hf hn
        have HR : Hid (s.extract (n + 4) s.size = s.extract (n + 4) s.size) := Lib.hid rfl
        by_cases hg3 : 3 < g
        · rw [if_pos (.inl hg3)]
          have dg : decide (3 < (g : Int)) = true := by simp; omega
          clear hg3
          go_enter Tryz.func33, Tryz.ntmps33
          go_wp2_with fail
          go_region_held3 (fun w' => Below w.heap.size w w') (first | exact Below.refl _ _ | exact Below.drew (Below.refl _ _) | assumption | exact Below.drew ‹_›)
            (first | (go_at_call 47; refine (HT.out _).mono ?_; rintro e w1 ⟨rfl, hb⟩; replace hb := below_step (by assumption) hb))
          have HB2 := Lib.hid hb; clear hb
          go_wp2_with fail
          exact bodyPost_ret (v := .tuple #[.int .i64 0, .int .i64 0, .string ByteArray.empty, .int .i64 10]) (by simp [results, Tryz.results33, go_sem]; rfl) rfl ⟨rfl, HB2.out⟩
        · have dg : decide (3 < (g : Int)) = false := by simp; omega
          by_cases hf3 : 3 < f
          · rw [if_pos (.inr hf3)]
            have df : decide (3 < (f : Int)) = true := by simp; omega
            clear hf3 hg3
            go_enter Tryz.func33, Tryz.ntmps33
            go_wp2_with fail
            go_region_held3 (fun w' => Below w.heap.size w w') (first | exact Below.refl _ _ | exact Below.drew (Below.refl _ _) | assumption | exact Below.drew ‹_›)
              (first | (go_at_call 47; refine (HT.out _).mono ?_; rintro e w1 ⟨rfl, hb⟩; replace hb := below_step (by assumption) hb))
            have HB2 := Lib.hid hb; clear hb
            go_wp2_with fail
            exact bodyPost_ret (v := .tuple #[.int .i64 0, .int .i64 0, .string ByteArray.empty, .int .i64 10]) (by simp [results, Tryz.results33, go_sem]; rfl) rfl ⟨rfl, HB2.out⟩
          · have df : decide (3 < (f : Int)) = false := by simp; omega
            rw [if_neg (by omega)]
            by_cases hg0 : g = 0
            · rw [if_pos hg0]
              have d0 : ((g : Int) == 0) = true := by simp; omega
              clear hf3 hg3 hg0
              go_enter Tryz.func33, Tryz.ntmps33
              go_wp2_with fail
              go_region_held3 (fun w' => Below w.heap.size w w') (first | exact Below.refl _ _ | exact Below.drew (Below.refl _ _) | assumption | exact Below.drew ‹_›)
                (first | (go_at_call 47; refine (HT.out _).mono ?_; rintro e w1 ⟨rfl, hb⟩; replace hb := below_step (by assumption) hb))
              have HB2 := Lib.hid hb; clear hb
              go_wp2_with fail
              exact bodyPost_ret (v := .tuple #[.int .i64 0, .int .i64 0, .string ByteArray.empty, .int .i64 9]) (by simp [results, Tryz.results33, go_sem]; rfl) rfl ⟨rfl, HB2.out⟩
            · rw [if_neg hg0]
              have d0 : ((g : Int) == 0) = false := by simp; omega
              clear hf3 hg3 hg0
              go_enter Tryz.func33, Tryz.ntmps33
              go_wp2_with fail
              go_region_held3 (fun w' => Below w.heap.size w w') (first | exact Below.refl _ _ | exact Below.drew (Below.refl _ _) | assumption | exact Below.drew ‹_›)
                (first | (go_at_call 47; refine (HT.out _).mono ?_; rintro e w1 ⟨rfl, hb⟩; replace hb := below_step (by assumption) hb))
              have HB2 := Lib.hid hb; clear hb
              go_wp2_with fail
              go_quiet (fail)
              go_wp2_with fail
              exact bodyPost_ret (v := .tuple #[.int .i64 g, .int .i64 f, .string (s.extract (n + 4) s.size), .int .i64 0]) (by simp [results, Tryz.results33, go_sem]) rfl ⟨rfl, below_drewN HB2.out _⟩
      · have hbc : (!((s.extract n (n + 4)).toList == (Crc.four (Crc.ofB (s.extract 0 n))).toList)) = true := by rw [hcb]; simpa using h3
        have ho : Fr.opened s magic = (0, 0, ByteArray.empty, 9) := by unfold Fr.opened; rw [hn, if_neg h1, if_neg (fun e => e h2), if_pos h3]
        unfold Four
        rw [ho]
        have HT := Lib.hid hTail
        clear ho h3 h2 hpb hcb hTail hsz hs
        have HN := Lib.hid hn; clear hn
        go_enter Tryz.func33, Tryz.ntmps33
        go_wp2_with fail
        go_region_held3 (fun w' => Below w.heap.size w w') (first | exact Below.refl _ _ | exact Below.drew (Below.refl _ _) | assumption | exact Below.drew ‹_›)
          (first | (go_at_call 47; refine (HT.out _).mono ?_; rintro e w1 ⟨rfl, hb⟩; replace hb := below_step (by assumption) hb))
        have HB2 := Lib.hid hb; clear hb
        go_wp2_with fail
        exact bodyPost_ret (v := .tuple #[.int .i64 0, .int .i64 0, .string ByteArray.empty, .int .i64 9]) (by simp [results, Tryz.results33, go_sem]; rfl) rfl ⟨rfl, HB2.out⟩
    · have hbp : (!((s.extract 0 magic.size).toList == magic.toList)) = true := by rw [hpb]; simpa using h2
      have ho : Fr.opened s magic = (0, 0, ByteArray.empty, 9) := by unfold Fr.opened; rw [hn, if_neg h1, if_pos h2]
      unfold Four
      rw [ho]
      clear ho h2 hpb
      have HN := Lib.hid hn; clear hn
      go_enter Tryz.func33, Tryz.ntmps33
      go_wp2_with fail
      go_quiet (fail)
      go_wp2_with fail
      exact bodyPost_ret (v := .tuple #[.int .i64 0, .int .i64 0, .string ByteArray.empty, .int .i64 9]) (by simp [results, Tryz.results33, go_sem]; rfl) rfl ⟨rfl, below_drewN (Below.refl _ _) _⟩
end Go.Proofs.YtokofifecdpmfaaGreatDoor
