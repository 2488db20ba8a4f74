/-
  What the functions of package crc come to: On, Of, Tail, Good.
-/
import Derived.Test.YtfgcgjogaaofdaaGreatDoorCrcA
namespace Go.Proofs.YtfgcgjogaaofdaaGreatDoor
open Go.RowKit

theorem not_u32 (c : Nat) (h : c < 4294967296) : bits BinOp.xor IntKind.u32 IntKind.u32.max (c : Int) = ((4294967295 - c : Nat) : Int) := by
  rw [← Crc.xor_top c h]; exact u32_xor_nat 4294967295 c (by decide) h
theorem and15_u32 (c : Nat) (h : c < 4294967296) : bits BinOp.and IntKind.u32 (c : Int) 15 = ((c % 16 : Nat) : Int) := by
  rw [← nat_mask4]; exact u32_and_nat c 15 h (by decide)

set_option maxRecDepth 100000 in
set_option maxHeartbeats 400000 in
theorem On_any (c : Nat) (hc : c < 4294967296) (s : ByteArray) (hs : s.size ≤ maxLen) (w : World) :
    Calls Tryz.prog 37 #[.int .u32 c, .string s] w fun e w' => e = .returned (.int .u32 (4294967295 - Crc.run (4294967295 - c) s.data.toList : Nat)) ∧ Below w.heap.size w w' := by
  unfold maxLen at hs
  have hn := not_u32 c hc
  have hn2 := not_u32 (Crc.run (4294967295 - c) s.data.toList) (Crc.run_lt _ (by omega))
  have HN2 := Lib.hid hn2; clear hn2
  go_enter Tryz.func37, Tryz.ntmps37
  go_wp2_with (go_at_call 64; refine (halves_any _).mono ?_; rintro e w1 ⟨rfl, hb⟩; have HB := Lib.hid hb; clear hb; rw [Crc.tab, Crc.part_all])
  rw [← Crc.part_all]
  have hc' : 4294967295 - c < 4294967296 := by omega
  clear hn
  generalize hC : 4294967295 - c = c0 at *
  go_loop [0, 12] (fun v i => ∃ k : Nat, k ≤ s.size ∧ i = .int .i64 k ∧ v = .int .u32 (Crc.run c0 (s.data.toList.take k))) (fun _ i => s.size - (intOf i).toNat)
  case atStart => exact ⟨0, Nat.zero_le _, rfl, rfl⟩
  case round =>
    obtain ⟨k, hk, rfl, rfl⟩ := hrel
    have hlt := Crc.run_lt (s.data.toList.take k) hc'
    by_cases h : k < s.size
    · have hT := Crc.run_take2 c0 s k h
      have hb := Crc.u8_lt s[k]
      generalize Crc.run c0 (s.data.toList.take k) = r at *
      have hx : bits BinOp.xor IntKind.u32 (r : Int) (s[k].toNat : Int) = ((r ^^^ s[k].toNat : Nat) : Int) := u32_xor_nat _ _ hlt hb
      have hxl := Crc.xor_lt hlt hb
      generalize r ^^^ s[k].toNat = x at *
      have ha := and15_u32 x hxl
      have hy : bits BinOp.xor IntKind.u32 ((x : Int) / 16) (Crc.steps 4 (x % 16) : Nat) = (Crc.steps 4 x : Nat) := by
        rw [Crc.steps4 x]; exact u32_xor_nat (x / 16) _ (by omega) (Crc.steps_lt 4 (by omega))
      have ht := Crc.tab_get (x % 16) (by omega)
      unfold Crc.tab at ht
      generalize Crc.steps 4 (x % 16) = t1 at *
      have hyl := Crc.steps_lt 4 hxl
      generalize Crc.steps 4 x = y at *
      have ha2 := and15_u32 y hyl
      have hz : bits BinOp.xor IntKind.u32 ((y : Int) / 16) (Crc.steps 4 (y % 16) : Nat) = (Crc.steps 4 y : Nat) := by
        rw [Crc.steps4 y]; exact u32_xor_nat (y / 16) _ (by omega) (Crc.steps_lt 4 (by omega))
      have ht2 := Crc.tab_get (y % 16) (by omega)
      unfold Crc.tab at ht2
      generalize Crc.steps 4 (y % 16) = t2 at *
      generalize Crc.steps 4 y = z at *
      have HT := Lib.hid hT; clear hT
      go_wp2
      go_round
      case rel => exact ⟨k + 1, by omega, by go_num, by rw [HT.out]⟩
      case measure => simp [intOf]; omega
    · have hE : Crc.run c0 (s.data.toList.take k) = Crc.run c0 s.data.toList := by rw [List.take_of_length_le (by simp; omega)]
      rw [hE] at *
      have hn2 := HN2.out
      clear hE
      go_wp2
      go_ret
      exact ⟨rfl, HB.out.alloc (HB.out.size) _⟩
end Go.Proofs.YtfgcgjogaaofdaaGreatDoor
