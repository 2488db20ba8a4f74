/-
  CrcBurst: the walk of the law.
-/
import Derived.Test.YtjamkglmdhblbaaRefC
import Derived.Test.YtjamkglmdhblbaaMathB
import Derived.Test.YtjamkglmdhblbaaArr
namespace Go.Proofs.Ytjamkglmdhblbaa
open Go.RowKit Go.WideShapes

theorem Try.info5s : (Try.prog.info? 5).map (·.size) = some 1 := by kernel_rfl

theorem eq_arr4 (w : World) (x0 x1 x2 x3 y0 y1 y2 y3 : UInt8) : (Op.equalIn 10000 31 (.agg #[.int .u8 x0.toNat, .int .u8 x1.toNat, .int .u8 x2.toNat, .int .u8 x3.toNat]) (.agg #[.int .u8 y0.toNat, .int .u8 y1.toNat, .int .u8 y2.toNat, .int .u8 y3.toNat])).run Try.prog w = .ok (decide ([x0, x1, x2, x3] = [y0, y1, y2, y3])) w := by
  cases hi : Try.prog.info? 5 with
  | none => have := Try.info5s; rw [hi] at this; simp at this
  | some i =>
    have hs : i.size = 1 := by have := Try.info5s; rw [hi] at this; simpa using this
    have h := run_equalIn_arr4 (P := Try.prog) w 9999 31 5 i Try.underlying31 Try.underlying5 hi hs x0.toNat x1.toNat x2.toNat x3.toNat y0.toNat y1.toNat y2.toNat y3.toNat (fun a b => a == b) (fun a b => run_equalIn_int w 9998 5 .u8 .u8 a b Try.underlying5)
    rw [h]
    congr 1
    have e : ∀ a b : UInt8, ((a.toNat : Int) == (b.toNat : Int)) = decide (a = b) := fun a b => by
      by_cases hab : a = b
      · subst hab; simp
      · have : ¬ a.toNat = b.toNat := fun h => hab (UInt8.toNat_inj.1 h)
        simp [hab]; omega
    rw [e, e, e, e]
    simp

set_option maxHeartbeats 400000 in
theorem burst_walk (w : World) (a : ByteArray) (x y : List UInt8) (hx : x.length = 4) (hy : y.length = 4) (b : ByteArray) :
    Calls Try.prog 5 #[.string a, .agg (byteCells x), .agg (byteCells y), .string b] w fun e w' => e = .returned (.bool true) ∧ Below w.heap.size w w' := by
  obtain ⟨x0, x1, x2, x3, rfl⟩ : ∃ x0 x1 x2 x3, x = [x0, x1, x2, x3] := by match x, hx with | [x0, x1, x2, x3], _ => exact ⟨x0, x1, x2, x3, rfl⟩
  obtain ⟨y0, y1, y2, y3, rfl⟩ : ∃ y0 y1 y2 y3, y = [y0, y1, y2, y3] := by match y, hy with | [y0, y1, y2, y3], _ => exact ⟨y0, y1, y2, y3, rfl⟩
  by_cases hl : a.size ≤ 600 ∧ b.size ≤ 600
  · obtain ⟨hl1, hl2⟩ := hl
    have hd1 : decide ((600 : Int) < (a.size : Int)) = false := by simp; omega
    have hd2 : decide ((600 : Int) < (b.size : Int)) = false := by simp; omega
    go_enter Try.func5, Try.ntmps5
    go_wp2_with fail
    refine (works_any _).mono ?_; rintro e w1 ⟨rfl, hb1⟩
    have hX : w1.heap[w.heap.size]? = some (.cells (byteCells [x0, x1, x2, x3]) 31 (0, 0)) := (hb1.block _ (by simp; omega)).trans (heap_alloc2_old w _ _)
    have hY : w1.heap[w.heap.size + 1]? = some (.cells (byteCells [y0, y1, y2, y3]) 31 (0, 0)) := (hb1.block _ (by simp)).trans (heap_alloc2_new w _ _)
    have HB0 := Lib.hid (((Below.refl w.heap.size w).alloc (Nat.le_refl _) (.cells (byteCells [x0, x1, x2, x3]) 31)).alloc (by simp) (.cells (byteCells [y0, y1, y2, y3]) 31))
    have HB1 := Lib.hid (HB0.out.trans (hb1.mono (by simp; omega)))
    have hsz := hb1.size
    simp only [World.size_alloc] at hsz
    clear hb1 HB0
    have cx0 := cell_of_row w1 _ 0 _ _ _ hX
    have cx1 := cell_of_row w1 _ 1 _ _ _ hX
    have cx2 := cell_of_row w1 _ 2 _ _ _ hX
    have cx3 := cell_of_row w1 _ 3 _ _ _ hX
    have cy0 := cell_of_row w1 _ 0 _ _ _ hY
    have cy1 := cell_of_row w1 _ 1 _ _ _ hY
    have cy2 := cell_of_row w1 _ 2 _ _ _ hY
    have cy3 := cell_of_row w1 _ 3 _ _ _ hY
    simp only [byteCells, List.map_cons, List.map_nil, List.getElem?_toArray, List.getElem?_cons_zero, List.getElem?_cons_succ] at cx0 cx1 cx2 cx3 cy0 cy1 cy2 cy3
    have HX := Lib.hid hX; have HY := Lib.hid hY; clear hX hY
    have he := eq_arr4 w1 x0 x1 x2 x3 y0 y1 y2 y3
    by_cases hxy : [x0, x1, x2, x3] = [y0, y1, y2, y3]
    · rw [decide_eq_true hxy] at he
      clear hxy
      go_wp2_with fail
      go_ret
      exact ⟨rfl, HB1.out⟩
    · rw [decide_eq_false hxy] at he
      have HXY := Lib.hid hxy; clear hxy
      go_wp2_with fail
      rw [arr_back w1 w.heap.size 32 5 9 _ [x0, x1, x2, x3] Try.underlying32 Try.underlying5 Try.underlying9 HX.out 4 rfl]
      go_wp2_with fail
      rw [arr_back w1 (w.heap.size + 1) 32 5 9 _ [y0, y1, y2, y3] Try.underlying32 Try.underlying5 Try.underlying9 HY.out 4 rfl]
      go_wp2_with fail
      have hne := Crc.ofB_burst a b [x0, x1, x2, x3] [y0, y1, y2, y3] rfl rfl HXY.out
      have hz1 : (a ++ (⟨#[x0, x1, x2, x3]⟩ : ByteArray) ++ b).size ≤ 1204 := by simp only [ByteArray.size_append, ByteArray.size_mk']; simp; omega
      have hz2 : (a ++ (⟨#[y0, y1, y2, y3]⟩ : ByteArray) ++ b).size ≤ 1204 := by simp only [ByteArray.size_append, ByteArray.size_mk']; simp; omega
      generalize a ++ (⟨#[x0, x1, x2, x3]⟩ : ByteArray) ++ b = s1 at *
      generalize a ++ (⟨#[y0, y1, y2, y3]⟩ : ByteArray) ++ b = s2 at *
      clear cx0 cx1 cx2 cx3 cy0 cy1 cy2 cy3 he HX HY HXY
      have h1 := Crc.ofB_lt s1
      have h2 := Crc.ofB_lt s2
      have hg : Crc.good (s2 ++ Crc.four (Crc.ofB s1)) = (ByteArray.empty, false) := by
        rw [Crc.good_append _ _ (Crc.four_size _), if_neg (fun e => hne (Crc.four_inj h1 h2 e))]
      have hgs : (s2 ++ Crc.four (Crc.ofB s1)).size ≤ maxLen := by unfold maxLen; rw [ByteArray.size_append, Crc.four_size]; omega
      have hb1 : ((Crc.ofB s1 : Int) == (Crc.ofB s2 : Int)) = false := by simp; omega
      have hb2 : ((Crc.ofB s1 : Int) != (Crc.ofB s2 : Int)) = true := by rw [bne, hb1]; rfl
      have hz3 : (Crc.four (Crc.ofB s1)).size = 4 := Crc.four_size _
      have HG := Lib.hid hg; have HGS := Lib.hid hgs; clear hg hgs hne h1 h2
      refine (Tail_any s1 (by unfold maxLen; omega) _).mono ?_; rintro e w2 ⟨rfl, hb2⟩
      have HB2 := Lib.hid (below_step HB1.out hb2); clear hb2
      go_wp2_with fail
      refine (Good_any _ HGS.out _).mono ?_; rintro e w3 ⟨rfl, hb3⟩; rw [HG.out]
      have HB3 := Lib.hid (below_step HB2.out hb3); clear hb3
      go_wp2_with fail
      refine (Of_any s1 (by unfold maxLen; omega) _).mono ?_; rintro e w4 ⟨rfl, hb4⟩
      have HB4 := Lib.hid (below_step HB3.out hb4); clear hb4
      go_wp2_with fail
      refine (Of_any s2 (by unfold maxLen; omega) _).mono ?_; rintro e w5 ⟨rfl, hb5⟩
      have HB5 := Lib.hid (below_step HB4.out hb5); clear hb5
      go_wp2_with fail
      go_ret
      exact ⟨rfl, HB5.out⟩
  · have hd : decide ((600 : Int) < (a.size : Int)) = true ∨ (decide ((600 : Int) < (a.size : Int)) = false ∧ decide ((600 : Int) < (b.size : Int)) = true) := by
      by_cases h : a.size ≤ 600
      · right; simp at hl; simp; omega
      · left; simp; omega
    rcases hd with hd | ⟨hd, hd2⟩
    all_goals
      go_enter Try.func5, Try.ntmps5
      go_wp2_with fail
      refine (works_any _).mono ?_; rintro e w1 ⟨rfl, hb1⟩
      have HB0 := Lib.hid (((Below.refl w.heap.size w).alloc (Nat.le_refl _) (.cells (byteCells [x0, x1, x2, x3]) 31)).alloc (by simp) (.cells (byteCells [y0, y1, y2, y3]) 31))
      have HB1 := Lib.hid (HB0.out.trans (hb1.mono (by simp; omega)))
      clear hb1
      go_wp2_with fail
      go_ret
      exact ⟨rfl, HB1.out⟩

theorem crcBurst_walk (w : World) (a : ByteArray) (_ : a.size ≤ maxLen) {v1 v2 : Value} {H : Type} {enc : TypeId × Value → H} {r : Reach} {b1 b2 base1 base2 : Nat} {sp1 sp2 : Nat → Bool} {hd1 hd2 : Bool} {d1 d2 : DataW H} {p1 p2 : List MemPlace}
    (o1 : Value.okWide Try.prog w r b1 31 v1) (k1 : DataW.Trod enc Try.prog w base1 sp1 hd1 31 v1 d1 p1) (o2 : Value.okWide Try.prog w r b2 31 v2) (k2 : DataW.Trod enc Try.prog w base2 sp2 hd2 31 v2 d2 p2) (b : ByteArray) (_ : b.size ≤ maxLen) :
    Calls Try.prog 5 #[.string a, v1, v2, .string b] w fun e w' => e = .returned (.bool true) ∧ Below w.heap.size w w' := by
  obtain ⟨x, hx, rfl⟩ := open_byte_array Try.underlying31 Try.underlying5 (by kernel_rfl) (by kernel_rfl) o1 k1
  obtain ⟨y, hy, rfl⟩ := open_byte_array Try.underlying31 Try.underlying5 (by kernel_rfl) (by kernel_rfl) o2 k2
  exact burst_walk w a x y hx hy b
end Go.Proofs.Ytjamkglmdhblbaa
