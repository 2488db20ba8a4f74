import Derived.Test.YtliobahnekohmaaGreatRefA
/-
  What the functions of package crc come to: halves, On, Of, Tail, Good.
-/
namespace Go.Proofs.YtliobahnekohmaaGreat
open Go.RowKit
namespace Crc
/-- the table's cells, when k of them are told -/
def part (k : Nat) : Array Value := (List.map (fun i : Nat => Value.int .u32 (if i < k then steps 4 i else 0 : Nat)) (List.range 16)).toArray
theorem part_zero : part 0 = #[.int .u32 0, .int .u32 0, .int .u32 0, .int .u32 0, .int .u32 0, .int .u32 0, .int .u32 0, .int .u32 0, .int .u32 0, .int .u32 0, .int .u32 0, .int .u32 0, .int .u32 0, .int .u32 0, .int .u32 0, .int .u32 0] := rfl
theorem part_size (k : Nat) : (part k).size = 16 := by simp [part]
theorem part_get (k i : Nat) (h : i < 16) : (part k)[i]? = some (.int .u32 (if i < k then steps 4 i else 0 : Nat)) := by
  simp [part, h]
theorem part_set (k : Nat) (h : k < 16) : (part k).setIfInBounds k (.int .u32 (steps 4 k : Nat)) = part (k + 1) := by
  apply Array.ext_getElem?
  intro i
  rw [Array.getElem?_setIfInBounds]
  by_cases hi : i < 16
  · rw [part_get _ _ hi, part_get _ _ hi, part_size]
    by_cases e : k = i
    · subst e; simp [h]
    · simp only [e, if_false]
      by_cases hk : i < k
      · rw [if_pos hk, if_pos (by omega)]
      · rw [if_neg hk, if_neg (by omega)]
  · have h1 : (part k)[i]? = none := by simp [part_size]; omega
    have h2 : (part (k + 1))[i]? = none := by simp [part_size]; omega
    rw [h1, h2, part_size, if_neg (by omega)]
/-- the table, as cells -/
def tab : Array Value := part 16
theorem part_all : part 16 = #[.int .u32 0, .int .u32 274646895, .int .u32 549293790, .int .u32 820201905, .int .u32 1098587580, .int .u32 1361435347, .int .u32 1640403810, .int .u32 1905808397, .int .u32 2197175160, .int .u32 2460548119, .int .u32 2722870694, .int .u32 2987750089, .int .u32 3280807620, .int .u32 3553878443, .int .u32 3811616794, .int .u32 4084100981] := by
  simp [part, steps, step, poly, List.range_succ]
theorem tab_get (i : Nat) (h : i < 16) : tab[i]? = some (.int .u32 (steps 4 i : Nat)) := by
  unfold tab; rw [part_get _ _ h, if_pos h]
end Crc

theorem Tryz.info166 : (Tryz.prog.info? 166).map (·.size) = some 16 := by kernel_rfl

set_option maxRecDepth 100000 in
set_option maxHeartbeats 400000 in
theorem halves_any (w : World) :
    Calls Tryz.prog 140 #[] w fun e w' => e = .returned (.agg Crc.tab) ∧ Below w.heap.size w w' := by
  go_enter Tryz.func140, Tryz.ntmps140
  go_wp2
  rw [← Crc.part_zero]
  go_loopw [5] (fun v wr => ∃ k : Nat, k ≤ 16 ∧ v = .int .i64 k ∧ wr = (w.alloc (.cells (Crc.part 0) 166)).alloc (.cells (Crc.part k) 166)) (fun v _ => 16 - (intOf v).toNat)
  case atStart => exact ⟨0, Nat.zero_le _, rfl, rfl⟩
  case round =>
    obtain ⟨k, hk, rfl, rfl⟩ := hrel
    by_cases h : k < 16
    · go_wp2
      go_loop [3, 10] (fun v j => ∃ m : Nat, m ≤ 4 ∧ j = .int .i64 m ∧ v = .int .u32 (Crc.steps m k : Nat)) (fun _ j => 4 - (intOf j).toNat)
      case atStart => exact ⟨0, by omega, rfl, rfl⟩
      case round =>
        obtain ⟨m, hm, rfl, rfl⟩ := hrel
        have hlt2 : Crc.steps m k < 4294967296 := Crc.steps_lt m (by omega)
        have hs := Crc.steps_succ m k
        generalize hR2 : Crc.steps m k = c2 at *
        have HR2 := Lib.hid hR2; clear hR2
        have HS := Lib.hid hs; clear hs
        have hand : bits BinOp.and IntKind.u32 (c2 : Int) 1 = ((c2 % 2 : Nat) : Int) := by
          rw [← nat_mask1]; exact u32_and_nat c2 1 hlt2 (by decide)
        by_cases hm4 : m < 4
        · by_cases hodd : c2 % 2 = 1
          · have hx2 : bits BinOp.xor IntKind.u32 ((c2 : Int) / 2) 2197175160 = ((c2 / 2 ^^^ Crc.poly : Nat) : Int) :=
              u32_xor_nat (c2 / 2) Crc.poly (by omega) Crc.poly_lt
            go_wp2
            go_round
            case rel => exact ⟨m + 1, by omega, by go_num, by rw [HS.out, Crc.step, if_pos hodd]⟩
            case measure => simp [intOf]; omega
          · go_wp2
            go_round
            case rel => exact ⟨m + 1, by omega, by go_num, by rw [HS.out, Crc.step, if_neg hodd]; go_num⟩
            case measure => simp [intOf]; omega
        · obtain rfl : m = 4 := by omega
          have hc := Crc.part_get k k h
          generalize Value.int .u32 ((if k < k then Crc.steps 4 k else 0 : Nat) : Int) = v0 at hc
          go_wp2
          go_roundw
          case rel => exact ⟨k + 1, by omega, by go_num, by rw [← HR2.out, Crc.part_set k h]⟩
          case measure => simp [intOf]; omega
    · obtain rfl : k = 16 := by omega
      rw [Crc.part_all, Crc.part_zero]
      go_wp2
      refine bodyPost_ret (v := .agg Crc.tab) (by rw [Crc.tab, Crc.part_all]; simp [results, Tryz.results140, go_sem]) rfl ⟨rfl, ?_⟩
      exact ((Below.refl _ _).alloc (Nat.le_refl _) _).alloc (by simp) _

end Go.Proofs.YtliobahnekohmaaGreat
/-
  What the functions of package crc come to: On, Of, Tail, Good.
-/
namespace Go.Proofs.YtliobahnekohmaaGreat
open Go.RowKit

theorem not_u32 (c : Nat) (h : c < 4294967296) : bits BinOp.xor IntKind.u32 IntKind.u32.max (c : Int) = ((4294967295 - c : Nat) : Int) := by
  rw [← Crc.xor_top c h]; exact u32_xor_nat 4294967295 c (by decide) h
theorem and15_u32 (c : Nat) (h : c < 4294967296) : bits BinOp.and IntKind.u32 (c : Int) 15 = ((c % 16 : Nat) : Int) := by
  rw [← nat_mask4]; exact u32_and_nat c 15 h (by decide)

set_option maxRecDepth 100000 in
set_option maxHeartbeats 400000 in
theorem On_any (c : Nat) (hc : c < 4294967296) (s : ByteArray) (hs : s.size ≤ maxLen) (w : World) :
    Calls Tryz.prog 109 #[.int .u32 c, .string s] w fun e w' => e = .returned (.int .u32 (4294967295 - Crc.run (4294967295 - c) s.data.toList : Nat)) ∧ Below w.heap.size w w' := by
  unfold maxLen at hs
  have hn := not_u32 c hc
  have hn2 := not_u32 (Crc.run (4294967295 - c) s.data.toList) (Crc.run_lt _ (by omega))
  have HN2 := Lib.hid hn2; clear hn2
  go_enter Tryz.func109, Tryz.ntmps109
  go_wp2_with (go_at_call 140; refine (halves_any _).mono ?_; rintro e w1 ⟨rfl, hb⟩; have HB := Lib.hid hb; clear hb; rw [Crc.tab, Crc.part_all])
  rw [← Crc.part_all]
  have hc' : 4294967295 - c < 4294967296 := by omega
  clear hn
  generalize hC : 4294967295 - c = c0 at *
  go_loop [0, 12] (fun v i => ∃ k : Nat, k ≤ s.size ∧ i = .int .i64 k ∧ v = .int .u32 (Crc.run c0 (s.data.toList.take k))) (fun _ i => s.size - (intOf i).toNat)
  case atStart => exact ⟨0, Nat.zero_le _, rfl, rfl⟩
  case round =>
    obtain ⟨k, hk, rfl, rfl⟩ := hrel
    have hlt := Crc.run_lt (s.data.toList.take k) hc'
    by_cases h : k < s.size
    · have hT := Crc.run_take2 c0 s k h
      have hb := Crc.u8_lt s[k]
      generalize Crc.run c0 (s.data.toList.take k) = r at *
      have hx : bits BinOp.xor IntKind.u32 (r : Int) (s[k].toNat : Int) = ((r ^^^ s[k].toNat : Nat) : Int) := u32_xor_nat _ _ hlt hb
      have hxl := Crc.xor_lt hlt hb
      generalize r ^^^ s[k].toNat = x at *
      have ha := and15_u32 x hxl
      have hy : bits BinOp.xor IntKind.u32 ((x : Int) / 16) (Crc.steps 4 (x % 16) : Nat) = (Crc.steps 4 x : Nat) := by
        rw [Crc.steps4 x]; exact u32_xor_nat (x / 16) _ (by omega) (Crc.steps_lt 4 (by omega))
      have ht := Crc.tab_get (x % 16) (by omega)
      unfold Crc.tab at ht
      generalize Crc.steps 4 (x % 16) = t1 at *
      have hyl := Crc.steps_lt 4 hxl
      generalize Crc.steps 4 x = y at *
      have ha2 := and15_u32 y hyl
      have hz : bits BinOp.xor IntKind.u32 ((y : Int) / 16) (Crc.steps 4 (y % 16) : Nat) = (Crc.steps 4 y : Nat) := by
        rw [Crc.steps4 y]; exact u32_xor_nat (y / 16) _ (by omega) (Crc.steps_lt 4 (by omega))
      have ht2 := Crc.tab_get (y % 16) (by omega)
      unfold Crc.tab at ht2
      generalize Crc.steps 4 (y % 16) = t2 at *
      generalize Crc.steps 4 y = z at *
      have HT := Lib.hid hT; clear hT
      go_wp2
      go_round
      case rel => exact ⟨k + 1, by omega, by go_num, by rw [HT.out]⟩
      case measure => simp [intOf]; omega
    · have hE : Crc.run c0 (s.data.toList.take k) = Crc.run c0 s.data.toList := by rw [List.take_of_length_le (by simp; omega)]
      rw [hE] at *
      have hn2 := HN2.out
      clear hE
      go_wp2
      go_ret
      exact ⟨rfl, HB.out.alloc (HB.out.size) _⟩
end Go.Proofs.YtliobahnekohmaaGreat
/-
  What the functions of package crc come to: Of, Tail, Good.
-/
namespace Go.Proofs.YtliobahnekohmaaGreat
open Go.RowKit
namespace Crc
/-- the check of bytes -/
def ofB (s : ByteArray) : Nat := 4294967295 - run 4294967295 s.data.toList
/-- a number's four bytes, the lowest first -/
def fourL (c : Nat) : List Int := [(c : Int) % 256, (c : Int) / 256 % 256, (c : Int) / 65536 % 256, (c : Int) / 16777216]
def four (c : Nat) : ByteArray := strOfNums (fourL c)
/-- a text without its check, if that is right -/
def good (s : ByteArray) : ByteArray × Bool :=
  if s.size < 4 then (ByteArray.empty, false)
  else if s.extract (s.size - 4) s.size = four (ofB (s.extract 0 (s.size - 4))) then (s.extract 0 (s.size - 4), true) else (ByteArray.empty, false)
theorem ofB_lt (s : ByteArray) : ofB s < 4294967296 := by unfold ofB; omega
end Crc

set_option maxRecDepth 100000 in
set_option maxHeartbeats 400000 in
theorem Of_any (s : ByteArray) (hs : s.size ≤ maxLen) (w : World) :
    Calls Tryz.prog 70 #[.string s] w fun e w' => e = .returned (.int .u32 (Crc.ofB s : Nat)) ∧ Below w.heap.size w w' := by
  go_enter Tryz.func70, Tryz.ntmps70
  go_wp2_with (go_at_call 109; refine (On_any 0 (by omega) s hs _).mono ?_; rintro e w1 ⟨rfl, hb⟩; have HB := Lib.hid hb; clear hb)
  go_ret
  exact ⟨rfl, HB.out⟩

theorem four_back (w : World) (b : Nat) (c : Nat) (hc : w.heap[b]? = some (.cells #[.int .u8 ((c : Int) % 256), .int .u8 ((c : Int) / 256 % 256), .int .u8 ((c : Int) / 65536 % 256), .int .u8 ((c : Int) / 16777216)] 5 (0, 0))) :
    (convert 63 9 (.slice (some ⟨b, 0, none⟩) 4 4)).run Tryz.prog w = .ok (.string (Crc.four c)) w :=
  run_convert_bytes_arg (P := Tryz.prog) w 63 5 Tryz.underlying63 Tryz.underlying5 b 0 4 4 (Crc.fourL c) rfl (fun i hi => by
    rw [Nat.zero_add, cell_of_row w b i _ _ _ hc]
    match i, hi with
    | 0, _ => rfl
    | 1, _ => rfl
    | 2, _ => rfl
    | 3, _ => rfl) 9 Tryz.underlying9

set_option maxRecDepth 100000 in
set_option maxHeartbeats 400000 in
theorem Tail_any (s : ByteArray) (hs : s.size ≤ maxLen) (w : World) :
    Calls Tryz.prog 34 #[.string s] w fun e w' => e = .returned (.string (Crc.four (Crc.ofB s))) ∧ Below w.heap.size w w' := by
  go_enter Tryz.func34, Tryz.ntmps34
  have hlt := Crc.ofB_lt s
  go_wp2_with (go_at_call 70; refine (Of_any s hs _).mono ?_; rintro e w1 ⟨rfl, hb⟩; have HB := Lib.hid hb; clear hb; generalize hC : Crc.ofB s = c at *; have HC := Lib.hid hC; clear hC)
  rw [four_back _ _ c (heap_alloc_new w1 _)]
  go_wp2
  go_ret
  exact ⟨by rw [HC.out]; rfl, HB.out.alloc HB.out.size _⟩

set_option maxRecDepth 100000 in
set_option maxHeartbeats 400000 in
theorem Good_any (s : ByteArray) (hs : s.size ≤ maxLen) (w : World) :
    Calls Tryz.prog 56 #[.string s] w fun e w' => e = .returned (.tuple #[.string (Crc.good s).1, .bool (Crc.good s).2]) ∧ Below w.heap.size w w' := by
  by_cases hlt : s.size < 4
  · have hg : Crc.good s = (ByteArray.empty, false) := by unfold Crc.good; rw [if_pos hlt]
    rw [hg]
    have hd : decide ((s.size : Int) - 4 < 0) = true := by simp; omega
    clear hg
    go_enter Tryz.func56, Tryz.ntmps56
    go_wp2
    go_quiet (fail)
    go_wp2
    go_ret2
    exact ⟨rfl, below_drewN (Below.refl _ _) _⟩
  · obtain ⟨n, hn⟩ : ∃ n : Nat, s.size - 4 = n := ⟨_, rfl⟩
    have hg : Crc.good s = if s.extract n s.size = Crc.four (Crc.ofB (s.extract 0 n)) then (s.extract 0 n, true) else (ByteArray.empty, false) := by
      unfold Crc.good; rw [if_neg hlt, hn]
    have hb := str_beq (s.extract n s.size) (Crc.four (Crc.ofB (s.extract 0 n)))
    have h0 : (s.size : Int) - 4 = n := by omega
    have h1 : (0 : Int) ≤ (n : Int) := by omega
    have h2 : (n : Int) ≤ s.size := by omega
    have hd : decide ((n : Int) < 0) = false := by simp
    unfold maxLen at hs
    clear hn
    have HB := Lib.hid hb; clear hb
    have HG := Lib.hid hg; clear hg
    go_enter Tryz.func56, Tryz.ntmps56
    go_wp2
    go_region_held3 (fun w' => Below w.heap.size w w') (first | exact Below.refl _ _ | exact Below.drew (Below.refl _ _) | assumption | exact Below.drew ‹_›)
      (first | (go_at_call 34; refine (Tail_any _ (by unfold maxLen; simp; omega) _).mono ?_; rintro e w1 ⟨rfl, hb⟩; replace hb := below_step (by assumption) hb))
    go_wp2
    · have ht : (!((s.extract n s.size).toList == (Crc.four (Crc.ofB (s.extract 0 n))).toList)) = true := by assumption
      go_ret2
      rw [HB.out] at ht
      rw [HG.out, if_neg (by simpa using ht)]
      exact ⟨rfl, hb⟩
    · have ht : (!((s.extract n s.size).toList == (Crc.four (Crc.ofB (s.extract 0 n))).toList)) = false := by assumption
      go_ret2
      rw [HB.out] at ht
      rw [HG.out, if_pos (by simpa using ht)]
      exact ⟨rfl, hb⟩
end Go.Proofs.YtliobahnekohmaaGreat
