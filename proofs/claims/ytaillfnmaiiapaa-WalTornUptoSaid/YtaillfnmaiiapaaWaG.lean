/-
  Changes as bytes in generation 1: the walk.
-/
import Derived.Test.YtaillfnmaiiapaaWaE
import Derived.Test.YtaillfnmaiiapaaBld
namespace Go.Proofs.Ytaillfnmaiiapaa
open Go.RowKit
theorem Wa.fixes_succ (f : Nat → Wa.Rec) (i : Nat) : Wa.fixes f (i + 1) = Wa.fixes f i ++ Wa.fix (f i) := rfl
theorem RecsIn.cells {w : World} {A : Option Addr} {n : Nat} {q : Nat → RAt} (h : RecsIn w A n q) {w2 : World} (hb : Below w.heap.size w w2) {k : Nat} (hk : k < n) :
    ∃ ad, A = some ad ∧ w2.cell? (ad.add (k * 5)) = some (.int .i64 (q k).r.kind) ∧ w2.cell? ⟨(ad.add (k * 5)).block, (ad.add (k * 5)).off + 1, none⟩ = some (.slice (q k).A (q k).r.l.length (q k).c) ∧
      w2.cell? ⟨(ad.add (k * 5)).block, (ad.add (k * 5)).off + 2, none⟩ = some (.int .i64 (q k).r.t) ∧ w2.cell? ⟨(ad.add (k * 5)).block, (ad.add (k * 5)).off + 3, none⟩ = some (.int .i64 (q k).r.hi) ∧ w2.cell? ⟨(ad.add (k * 5)).block, (ad.add (k * 5)).off + 4, none⟩ = some (.int .u64 ((q k).r.v : Int)) := by
  obtain ⟨ad, e, cc0, cc1⟩ := h.row.at_ hb hk
  exact ⟨ad, e, cc0 (by decide), cc1 1 (by decide) (by decide), cc1 2 (by decide) (by decide), cc1 3 (by decide) (by decide), cc1 4 (by decide) (by decide)⟩
set_option maxRecDepth 100000 in
set_option maxHeartbeats 4000000 in
theorem put1_any (nb : Nat) (A : Option Addr) (n c : Nat) (q : Nat → RAt) (w : World) (h : RecsIn w A n q) (hq : ∀ i, i < n → (q i).r.l.length ≤ 6) (hn : n ≤ 100000) :
    Calls Try.prog 59 #[.agg #[.pointer (some ⟨nb, 0, none⟩)], .slice A n c] w fun e w' => e = .returned (.tuple #[.string (Wa.fixes (recF q) n), .bool true]) ∧ Below w.heap.size w w' := by
  have HA := Lib.hid h; have HQ := Lib.hid hq
  have HFS := Lib.hid (Wa.fixes_succ (recF q)); have HFZ := Lib.hid (Wa.fixes_size (recF q))
  have HF0 : Hid (Wa.fixes (recF q) 0 = ByteArray.empty) := Lib.hid rfl
  generalize Wa.fixes (recF q) = fx at *
  clear h hq
  go_enter Try.func59, Try.ntmps59
  go_wp2_with fail
  obtain ⟨wa, hwa⟩ : ∃ wa, wa = w.alloc (.cells #[.pointer (some ⟨nb, 0, none⟩)] 80) := ⟨_, rfl⟩
  have hba : Below w.heap.size w wa := by rw [hwa]; exact (Below.refl _ _).alloc (Nat.le_refl _) _
  have hs1 : wa.heap.size = w.heap.size + 1 := by rw [hwa]; simp
  rw [← hwa]
  have hbn := BldAt.new wa
  have hbb : Below wa.heap.size wa (wa.alloc (.cells #[.pointer none, .slice none 0 0] 119)) := (Below.refl _ _).alloc (Nat.le_refl _) _
  obtain ⟨wb, hwb⟩ : ∃ wb, wb = wa.alloc (.cells #[.pointer none, .slice none 0 0] 119) := ⟨_, rfl⟩
  have hlo := hba.size
  rw [← hwb] at hbn hbb ⊢
  have HB1 := Lib.hid (below_step hba hbb)
  rw [hs1] at hbn hlo
  obtain ⟨bb, hbbe⟩ : ∃ bb, bb = w.heap.size + 1 := ⟨_, rfl⟩
  rw [← hbbe] at hbn hlo ⊢
  have HBL1 := Lib.hid hbn; have HLO := Lib.hid hlo
  clear hwa hba hwb hbb hbn hlo hbbe hs1
  go_loopw [8, 11] (fun _ i wr => ∃ k : Nat, k ≤ n ∧ i = .int .i64 k ∧ Below w.heap.size w wr ∧ BldAt wr bb bb (fx k).data.toList) (fun _ i _ => n - (intOf i).toNat)
  case atStart => exact ⟨0, by omega, rfl, HB1.out, by rw [HF0.out]; exact HBL1.out⟩
  case round =>
    obtain ⟨k, hkn, rfl, hb, hbl⟩ := hrel
    have HB := Lib.hid hb; have HBL := Lib.hid hbl; clear hb hbl
    have i0 : (0 : Int) ≤ (k : Int) := Int.natCast_nonneg _
    by_cases hlt : k < n
    · have i1 : (k : Int) < (n : Int) := by omega
      have d1 : decide ((k : Int) < (n : Int)) = true := decide_eq_true i1
      obtain ⟨ad, rfl, x0, x1, x2, x3, x4⟩ := HA.out.cells HB.out hlt
      have HR := Lib.hid ((HA.out.each k hlt).later HB.out)
      obtain ⟨w8, hw8⟩ : ∃ w8, w8 = wr.alloc (.cells (recC (q k).r (q k).A (q k).c) 52) := ⟨_, rfl⟩
      have hb8 : Below wr.heap.size wr w8 := by rw [hw8]; exact (Below.refl _ _).alloc (Nat.le_refl _) _
      have hy8 : w8.heap[wr.heap.size]? = some (.cells (recC (q k).r (q k).A (q k).c) 52 (0, 0)) := by rw [hw8]; exact heap_alloc_new wr _
      have HFX := Lib.hid (fun U (hU : Below wr.heap.size wr U) => fixed_any (q k).r (q k).A (q k).c U (HR.out.later hU) (HQ.out k hlt))
      unfold recC at hw8 hy8 HFX
      have HB8 := Lib.hid hb8
      have y0 := cell_of_row _ _ 0 _ _ _ hy8; have y1 := cell_of_row _ _ 1 _ _ _ hy8; have y2 := cell_of_row _ _ 2 _ _ _ hy8; have y3 := cell_of_row _ _ 3 _ _ _ hy8; have y4 := cell_of_row _ _ 4 _ _ _ hy8
      simp only [List.getElem?_toArray, List.getElem?_cons_zero, List.getElem?_cons_succ] at y0 y1 y2 y3 y4
      clear hb8 hy8
      have hz : (Wa.fix (q k).r).size = 186 := Wa.fix_size _
      have hzf := HFZ.out k
      have hfs : fx (k + 1) = fx k ++ Wa.fix (q k).r := HFS.out k
      have HS := Lib.hid hfs; have HZ := Lib.hid (And.intro hz hzf)
      clear hfs hz hzf
      generalize Wa.fix (q k).r = fr at *
      go_upto_region 5 with fail
      rw [← hw8]
      clear hw8 x0 x1 x2 x3 x4
      go_wp2_with fail
      refine (HFX.out w8 HB8.out).mono ?_; rintro e w9 ⟨rfl, hb9⟩
      have hb89 := below_step HB8.out hb9
      have HBL9 := Lib.hid (HBL.out.keep hb89)
      have HB9 := Lib.hid (below_step HB.out hb89)
      have hbs : bb ≤ w9.heap.size := by have h1 := HBL9.out.lt; omega
      have hll : (fx k).data.toList.length + fr.size ≤ 1099511627776 := by
        have h1 : (fx k).data.toList.length = (fx k).size := by simp
        have := HZ.out; omega
      have HWS := Lib.hid (bldString bb bb (fx k).data.toList fr w9 HBL9.out hll hbs)
      clear hb9 hb89 hbs hll y0 y1 y2 y3 y4
      go_wp2_with fail
      refine HWS.out.mono ?_; rintro e w10 ⟨rfl, hl10, hb10, -⟩
      have HB10 : Hid (Below w.heap.size w w10) := Lib.hid (HB9.out.trans (hb10.mono HLO.out))
      have HL10 : Hid (BldAt w10 bb bb (fx (k + 1)).data.toList) := Lib.hid (by
        rw [HS.out]
        have e : (fx k ++ fr).data.toList = (fx k).data.toList ++ fr.data.toList := by simp
        rw [e]; exact hl10)
      clear hl10 hb10
      go_wp2_with fail
      go_roundw
      case rel => exact ⟨k + 1, by omega, by go_num, HB10.out, HL10.out⟩
      case measure => simp [intOf]; omega
    · obtain rfl : k = n := by omega
      have d1 : decide ((k : Int) < (k : Int)) = false := decide_eq_false (by omega)
      have HST := Lib.hid (bldText bb bb _ wr HBL.out (by have := HBL.out.lt; omega))
      go_wp2_with fail
      refine HST.out.mono ?_; rintro e w3 ⟨rfl, hb3⟩
      have e1 : (⟨(fx k).data.toList.toArray⟩ : ByteArray) = fx k := by simp
      rw [e1]
      have HB3 : Hid (Below w.heap.size w w3) := Lib.hid (HB.out.trans (hb3.mono HLO.out))
      clear hb3
      go_wp2_with fail
      go_ret2
      exact ⟨rfl, HB3.out⟩
end Go.Proofs.Ytaillfnmaiiapaa
