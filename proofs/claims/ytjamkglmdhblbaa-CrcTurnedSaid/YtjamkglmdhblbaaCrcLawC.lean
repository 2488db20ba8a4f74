/-
  CrcTurned: the walk of the law.
-/
import Derived.Test.YtjamkglmdhblbaaRefC
import Derived.Test.YtjamkglmdhblbaaMathB
import Derived.Test.YtjamkglmdhblbaaArr
import Derived.RegionTactic
namespace Go.Proofs.Ytjamkglmdhblbaa
open Go.RowKit Go.WideShapes

namespace Crc
/-- three bytes at a place, turned by each other -/
def tri (a b c : List UInt8) (i : Nat) : UInt8 := a.getD i 0 ^^^ b.getD i 0 ^^^ c.getD i 0
/-- the bytes so far -/
def dl (a b c : List UInt8) (k : Nat) : List UInt8 := (List.range 9).map fun i => if i < k then tri a b c i else 0
theorem dl_length (a b c : List UInt8) (k : Nat) : (dl a b c k).length = 9 := by simp [dl]
theorem dl_get (a b c : List UInt8) (k i : Nat) (h : i < 9) : (byteCells (dl a b c k))[i]? = some (.int .u8 ((if i < k then tri a b c i else 0 : UInt8).toNat : Int)) := by
  simp [byteCells, dl, h]
theorem dl_set (a b c : List UInt8) (k : Nat) (h : k < 9) : (byteCells (dl a b c k)).setIfInBounds k (.int .u8 ((tri a b c k).toNat : Int)) = byteCells (dl a b c (k + 1)) := by
  apply Array.ext_getElem?
  intro i
  have hs : ∀ j, (byteCells (dl a b c j)).size = 9 := fun j => by simp [byteCells, dl]
  rw [Array.getElem?_setIfInBounds]
  by_cases hi : i < 9
  · rw [dl_get _ _ _ _ _ hi, dl_get _ _ _ _ _ hi, hs]
    by_cases e : k = i
    · subst e; simp [h]
    · simp only [e, if_false]
      by_cases hk : i < k
      · rw [if_pos hk, if_pos (by omega)]
      · rw [if_neg hk, if_neg (by omega)]
  · have h1 : (byteCells (dl a b c k))[i]? = none := by simp [hs]; omega
    have h2 : (byteCells (dl a b c (k + 1)))[i]? = none := by simp [hs]; omega
    rw [h1, h2, hs, if_neg (by omega)]
theorem dl_all (a b c : List UInt8) (ha : a.length = 9) (hb : b.length = 9) (hc : c.length = 9) : dl a b c 9 = List.zipWith (· ^^^ ·) (List.zipWith (· ^^^ ·) a b) c := by
  apply List.ext_getElem?
  intro i
  by_cases hi : i < 9
  · have e1 : a[i]? = some (a.getD i 0) := by simp [List.getD, show i < a.length from by omega]
    have e2 : b[i]? = some (b.getD i 0) := by simp [List.getD, show i < b.length from by omega]
    have e3 : c[i]? = some (c.getD i 0) := by simp [List.getD, show i < c.length from by omega]
    rw [List.getElem?_zipWith, List.getElem?_zipWith, e1, e2, e3]
    simp [dl, hi, tri]
  · have h1 : (dl a b c 9)[i]? = none := by simp [dl]; omega
    rw [h1, List.getElem?_zipWith, List.getElem?_zipWith]
    have e1 : a[i]? = none := by simp; omega
    rw [e1]
theorem turned (a b c : List UInt8) (ha : a.length = 9) (hb : b.length = 9) (hc : c.length = 9) :
    ofB ⟨(dl a b c 9).toArray⟩ = ofB ⟨a.toArray⟩ ^^^ ofB ⟨b.toArray⟩ ^^^ ofB ⟨c.toArray⟩ := by
  have h3 : (4294967295 : Nat) = (4294967295 ^^^ 4294967295) ^^^ 4294967295 := by simp
  have e : run 4294967295 (dl a b c 9) = run 4294967295 a ^^^ run 4294967295 b ^^^ run 4294967295 c := by
    rw [dl_all a b c ha hb hc]
    conv => lhs; rw [h3]
    rw [run_xor _ _ _ _ (by simp; omega), run_xor _ _ _ _ (by omega)]
  have l1 := run_lt a (c := 4294967295) (by omega)
  have l2 := run_lt b (c := 4294967295) (by omega)
  have l3 := run_lt c (c := 4294967295) (by omega)
  have l4 := run_lt (dl a b c 9) (c := 4294967295) (by omega)
  unfold ofB
  show 4294967295 - run 4294967295 (dl a b c 9) = (4294967295 - run 4294967295 a) ^^^ (4294967295 - run 4294967295 b) ^^^ (4294967295 - run 4294967295 c)
  rw [← xor_top _ l1, ← xor_top _ l2, ← xor_top _ l3, ← xor_top _ l4, e]
  generalize run 4294967295 a = x
  generalize run 4294967295 b = y
  generalize run 4294967295 c = z
  have e1 : 4294967295 ^^^ x ^^^ (4294967295 ^^^ y) = x ^^^ y := by
    rw [Nat.xor_comm 4294967295 x, Nat.xor_assoc, ← Nat.xor_assoc 4294967295 4294967295, Nat.xor_self, Nat.zero_xor]
  rw [e1, ← Nat.xor_assoc (x ^^^ y), Nat.xor_comm (x ^^^ y) 4294967295, Nat.xor_assoc 4294967295]
end Crc

set_option maxHeartbeats 400000 in
theorem turned_walk (w : World) (a b c : List UInt8) (ha : a.length = 9) (hb : b.length = 9) (hc : c.length = 9) :
    Calls Try.prog 8 #[.agg (byteCells a), .agg (byteCells b), .agg (byteCells c)] w fun e w' => e = .returned (.bool true) ∧ Below w.heap.size w w' := by
  go_enter Try.func8, Try.ntmps8
  go_wp2_with fail
  refine (works_any _).mono ?_; rintro e w1 ⟨rfl, hb1⟩
  have HB0 := Lib.hid ((((Below.refl w.heap.size w).alloc (Nat.le_refl _) (.cells (byteCells a) 36)).alloc (by simp) (.cells (byteCells b) 36)).alloc (by simp; omega) (.cells (byteCells c) 36))
  have HB1 := Lib.hid (HB0.out.trans (hb1.mono (by simp; omega)))
  have hsz := hb1.size
  have hA : w1.heap[w.heap.size]? = some (.cells (byteCells a) 36 (0, 0)) := (hb1.block _ (by simp; omega)).trans ((heap_alloc_old _ _ (by simp; omega)).trans (heap_alloc2_old w _ _))
  have hB : w1.heap[w.heap.size + 1]? = some (.cells (byteCells b) 36 (0, 0)) := (hb1.block _ (by simp)).trans ((heap_alloc_old _ _ (by simp)).trans (heap_alloc2_new w _ _))
  have hC : w1.heap[w.heap.size + 2]? = some (.cells (byteCells c) 36 (0, 0)) := (hb1.block _ (by simp)).trans (by have := heap_alloc_new ((w.alloc (.cells (byteCells a) 36)).alloc (.cells (byteCells b) 36)) (.cells (byteCells c) 36); simpa using this)
  simp only [World.size_alloc] at hsz
  clear hb1 HB0
  have HA := Lib.hid hA; have HB := Lib.hid hB; have HC := Lib.hid hC; clear hA hB hC
  go_wp2_with fail
  have hD0 : (#[.int .u8 0, .int .u8 0, .int .u8 0, .int .u8 0, .int .u8 0, .int .u8 0, .int .u8 0, .int .u8 0, .int .u8 0] : Array Value) = byteCells (Crc.dl a b c 0) := rfl
  rw [hD0]
  clear hD0
  go_loopw [9] (fun v9 wr => ∃ k : Nat, k ≤ 9 ∧ v9 = .int .i64 k ∧ wr.heap[w.heap.size]? = some (.cells (byteCells a) 36 (0, 0)) ∧ wr.heap[w.heap.size + 1]? = some (.cells (byteCells b) 36 (0, 0)) ∧ wr.heap[w.heap.size + 2]? = some (.cells (byteCells c) 36 (0, 0)) ∧ wr.heap[w1.heap.size]? = some (.cells (byteCells (Crc.dl a b c k)) 36 (0, 0)) ∧ Below w.heap.size w wr) (fun v9 _ => 9 - (intOf v9).toNat)
  case atStart => exact ⟨0, by omega, rfl, (heap_alloc_old _ _ (by omega)).trans HA.out, (heap_alloc_old _ _ (by omega)).trans HB.out, (heap_alloc_old _ _ (by omega)).trans HC.out, heap_alloc_new _ _, HB1.out.alloc HB1.out.size _⟩
  case round =>
    obtain ⟨k, hk, rfl, gA, gB, gC, gD, hbl⟩ := hrel
    by_cases h9 : k < 9
    · have ca := cell_of_row wr _ k _ _ _ gA
      have cb := cell_of_row wr _ k _ _ _ gB
      have cc := cell_of_row wr _ k _ _ _ gC
      have cd := cell_of_row wr _ k _ _ _ gD
      have fd := frozen_of_row wr _ k _ _ gD
      have ea : (byteCells a)[k]? = some (.int .u8 ((a.getD k 0).toNat : Int)) := by simp [byteCells, List.getD, show k < a.length from by omega]
      have eb : (byteCells b)[k]? = some (.int .u8 ((b.getD k 0).toNat : Int)) := by simp [byteCells, List.getD, show k < b.length from by omega]
      have ec : (byteCells c)[k]? = some (.int .u8 ((c.getD k 0).toNat : Int)) := by simp [byteCells, List.getD, show k < c.length from by omega]
      rw [ea] at ca; rw [eb] at cb; rw [ec] at cc; rw [Crc.dl_get _ _ _ _ _ h9] at cd
      have hx1 : bits BinOp.xor IntKind.u8 ((a.getD k 0).toNat : Int) ((b.getD k 0).toNat : Int) = (((a.getD k 0) ^^^ (b.getD k 0)).toNat : Int) := by
        rw [u8_xor_nat _ _ (UInt8.toNat_lt _) (UInt8.toNat_lt _), UInt8.toNat_xor]
      have hx2 : bits BinOp.xor IntKind.u8 (((a.getD k 0) ^^^ (b.getD k 0)).toNat : Int) ((c.getD k 0).toNat : Int) = ((Crc.tri a b c k).toNat : Int) := by
        rw [u8_xor_nat _ _ (UInt8.toNat_lt _) (UInt8.toNat_lt _), ← UInt8.toNat_xor]; rfl
      have hds := Crc.dl_set a b c k h9
      have HDS := Lib.hid hds
      have GA := Lib.hid gA; have GB := Lib.hid gB; have GC := Lib.hid gC; have GD := Lib.hid gD
      clear hds gA gB gC gD ea eb ec
      generalize (Crc.tri a b c k).toNat = t at *
      generalize ((a.getD k 0) ^^^ (b.getD k 0)).toNat = ab at *
      generalize (a.getD k 0).toNat = av at *
      generalize (b.getD k 0).toNat = bv at *
      generalize (c.getD k 0).toNat = cv at *
      generalize (if k < k then Crc.tri a b c k else 0 : UInt8).toNat = dv at *
      go_wp2
      go_region
      go_wp2
      go_roundw
      case rel =>
        have hne : ∀ i, i < w1.heap.size → i ≠ w1.heap.size := fun i hi => by omega
        exact ⟨k + 1, by omega, by go_num, (heap_setCell_other wr _ _ _ (hne _ (by omega))).trans GA.out, (heap_setCell_other wr _ _ _ (hne _ (by omega))).trans GB.out, (heap_setCell_other wr _ _ _ (hne _ (by omega))).trans GC.out,
          (heap_setCell_same wr _ _ _ _ _ GD.out).trans (by rw [HDS.out]), (hbl.setCell (by show w.heap.size ≤ w1.heap.size; omega) _).drew⟩
      case measure => simp [intOf]; omega
    · obtain rfl : k = 9 := by omega
      have sa := fun (W : World) (h : W.heap[w.heap.size]? = some (.cells (byteCells a) 36 (0, 0))) => arr_back (P := Try.prog) W w.heap.size 32 5 9 _ a Try.underlying32 Try.underlying5 Try.underlying9 h 9 ha
      have sb := fun (W : World) (h : W.heap[w.heap.size + 1]? = some (.cells (byteCells b) 36 (0, 0))) => arr_back (P := Try.prog) W (w.heap.size + 1) 32 5 9 _ b Try.underlying32 Try.underlying5 Try.underlying9 h 9 hb
      have sc := fun (W : World) (h : W.heap[w.heap.size + 2]? = some (.cells (byteCells c) 36 (0, 0))) => arr_back (P := Try.prog) W (w.heap.size + 2) 32 5 9 _ c Try.underlying32 Try.underlying5 Try.underlying9 h 9 hc
      have sd := fun (W : World) (h : W.heap[w1.heap.size]? = some (.cells (byteCells (Crc.dl a b c 9)) 36 (0, 0))) => arr_back (P := Try.prog) W w1.heap.size 32 5 9 _ (Crc.dl a b c 9) Try.underlying32 Try.underlying5 Try.underlying9 h 9 (Crc.dl_length a b c 9)
      have ht := Crc.turned a b c ha hb hc
      have la : (⟨a.toArray⟩ : ByteArray).size ≤ 9 := by rw [ByteArray.size_mk']; simp; omega
      have lb : (⟨b.toArray⟩ : ByteArray).size ≤ 9 := by rw [ByteArray.size_mk']; simp; omega
      have lc : (⟨c.toArray⟩ : ByteArray).size ≤ 9 := by rw [ByteArray.size_mk']; simp; omega
      have ld : (⟨(Crc.dl a b c 9).toArray⟩ : ByteArray).size ≤ 9 := by rw [ByteArray.size_mk']; simp [Crc.dl_length]
      generalize (⟨a.toArray⟩ : ByteArray) = A at *
      generalize (⟨b.toArray⟩ : ByteArray) = B at *
      generalize (⟨c.toArray⟩ : ByteArray) = C at *
      generalize (⟨(Crc.dl a b c 9).toArray⟩ : ByteArray) = D at *
      have lA := Crc.ofB_lt A; have lB := Crc.ofB_lt B; have lC := Crc.ofB_lt C
      have x1 : bits BinOp.xor IntKind.u32 (Crc.ofB A : Int) (Crc.ofB B : Int) = ((Crc.ofB A ^^^ Crc.ofB B : Nat) : Int) := u32_xor_nat _ _ lA lB
      have x2 : bits BinOp.xor IntKind.u32 ((Crc.ofB A ^^^ Crc.ofB B : Nat) : Int) (Crc.ofB C : Int) = ((Crc.ofB A ^^^ Crc.ofB B ^^^ Crc.ofB C : Nat) : Int) := u32_xor_nat _ _ (Crc.xor_lt lA lB) lC
      rw [← ht] at x2
      have HT := Lib.hid ht; clear ht
      go_wp2
      go_region_held3 (fun W => W.heap[w.heap.size]? = some (.cells (byteCells a) 36 (0, 0)) ∧ W.heap[w.heap.size + 1]? = some (.cells (byteCells b) 36 (0, 0)) ∧ W.heap[w.heap.size + 2]? = some (.cells (byteCells c) 36 (0, 0)) ∧ W.heap[w1.heap.size]? = some (.cells (byteCells (Crc.dl a b c 9)) 36 (0, 0)) ∧ Below w.heap.size w W)
        (first | exact ⟨gA, gB, gC, gD, hbl.drew⟩ | go_keep | (go_split_ands; refine ⟨?_, ?_, ?_, ?_, ?_⟩ <;> first | exact heap_keep (by assumption) hb2 | exact below_step (by assumption) hb2))
        (first | (go_at_call 12; refine (Of_any _ (by unfold maxLen; omega) _).mono ?_; rintro e W2 ⟨rfl, hb2⟩))
      go_wp2
      go_ret
      exact ⟨by simp, by go_split_ands; assumption⟩

theorem crcTurned_walk (w : World) {v0 v1 v2 : Value} {H : Type} {enc : TypeId × Value → H} {r : Reach} {b0 b1 b2 base0 base1 base2 : Nat} {sp0 sp1 sp2 : Nat → Bool} {hd0 hd1 hd2 : Bool} {d0 d1 d2 : DataW H} {p0 p1 p2 : List MemPlace}
    (o0 : Value.okWide Try.prog w r b0 36 v0) (k0 : DataW.Trod enc Try.prog w base0 sp0 hd0 36 v0 d0 p0) (o1 : Value.okWide Try.prog w r b1 36 v1) (k1 : DataW.Trod enc Try.prog w base1 sp1 hd1 36 v1 d1 p1) (o2 : Value.okWide Try.prog w r b2 36 v2) (k2 : DataW.Trod enc Try.prog w base2 sp2 hd2 36 v2 d2 p2) :
    Calls Try.prog 8 #[v0, v1, v2] w fun e w' => e = .returned (.bool true) ∧ Below w.heap.size w w' := by
  obtain ⟨x, hx, rfl⟩ := open_byte_array Try.underlying36 Try.underlying5 (by kernel_rfl) (by kernel_rfl) o0 k0
  obtain ⟨y, hy, rfl⟩ := open_byte_array Try.underlying36 Try.underlying5 (by kernel_rfl) (by kernel_rfl) o1 k1
  obtain ⟨z, hz, rfl⟩ := open_byte_array Try.underlying36 Try.underlying5 (by kernel_rfl) (by kernel_rfl) o2 k2
  exact turned_walk w x y z hx hy hz
end Go.Proofs.Ytjamkglmdhblbaa
