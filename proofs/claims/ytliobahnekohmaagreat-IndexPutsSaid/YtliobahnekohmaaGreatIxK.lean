import Derived.Test.YtliobahnekohmaaGreatIxI
import Derived.Test.YtliobahnekohmaaGreatShelfF
import Derived.Test.YtliobahnekohmaaGreatShelfS
/-
  Entries in generation 3, but for the postings: the walk.
-/
namespace Go.Proofs.YtliobahnekohmaaGreat
open Go.RowKit
namespace Ix
def lastOf : Int → List Ent → Int
 | a, [] => a
 | _, e :: L => lastOf e.last L
def endOf : Int → List Ent → Int
 | z, [] => z
 | _, e :: L => endOf (e.off + e.len) L
theorem lastOf_snoc (e : Ent) : ∀ (L : List Ent) (a : Int), lastOf a (L ++ [e]) = e.last
 | [], _ => rfl
 | x :: L, _ => lastOf_snoc e L x.last
theorem endOf_snoc (e : Ent) : ∀ (L : List Ent) (z : Int), endOf z (L ++ [e]) = e.off + e.len
 | [], _ => rfl
 | x :: L, _ => endOf_snoc e L (x.off + x.len)
theorem ents3_snoc (S : List ByteArray) (e : Ent) : ∀ (L : List Ent) (a z : Int), ents3 S a z (L ++ [e]) = ents3 S a z L ++ one3 S (lastOf a L) (endOf z L) e
 | [], a, z => by show one3 S a z e ++ ByteArray.empty = ByteArray.empty ++ one3 S a z e; rw [ByteArray.append_empty, ByteArray.empty_append]
 | x :: L, a, z => by
  show one3 S a z x ++ ents3 S x.last (x.off + x.len) (L ++ [e]) = (one3 S a z x ++ ents3 S x.last (x.off + x.len) L) ++ _
  rw [ents3_snoc S e L, ByteArray.append_assoc]; rfl
theorem one3_size (S : List ByteArray) (a z : Int) (e : Ent) : (one3 S a z e).size ≤ 40 + 20 * e.l.length := by
 have h0 := Fr.small_le e.l.length
 have h1 := labsB_size S e.l
 have h2 := Fr.small_le (Num.zig (e.last - a))
 have h3 := Fr.small_le (Num.zig (e.off - z))
 have h4 := Fr.small_le (u64 e.len)
 unfold one3
 simp only [ByteArray.size_append]
 omega
theorem ents3_bound (S : List ByteArray) (q : Nat → EAt) {n : Nat} (h : ∀ i, i < n → (q i).e.l.length ≤ 6) : ∀ k, k ≤ n → (ents3 S 0 0 (entL q k)).size ≤ 160 * k
 | 0, _ => Nat.le_refl _
 | k + 1, hk => by
  have ih := ents3_bound S q h k (by omega)
  have h1 := h k (by omega)
  have h2 := one3_size S (lastOf 0 (entL q k)) (endOf 0 (entL q k)) (q k).e
  rw [entL_succ, ents3_snoc, ByteArray.size_append]
  omega
end Ix
theorem last_in (q : Nat → EAt) {n : Nat} (h : ∀ i, i < n → 0 ≤ (q i).e.last ∧ (q i).e.last ≤ 1125899906842624) {k : Nat} (hk : k ≤ n) : 0 ≤ Ix.lastOf 0 (entL q k) ∧ Ix.lastOf 0 (entL q k) ≤ 1125899906842624 := by
 cases k with
 | zero => show (0 : Int) ≤ 0 ∧ (0 : Int) ≤ 1125899906842624; decide
 | succ k => rw [entL_succ, Ix.lastOf_snoc]; exact h k (by omega)
theorem end_in (q : Nat → EAt) {n : Nat} (h : ∀ i, i < n → 0 ≤ (q i).e.off ∧ (q i).e.off ≤ 1073741824) (h2 : ∀ i, i < n → 0 ≤ (q i).e.len ∧ (q i).e.len ≤ 1073741824) {k : Nat} (hk : k ≤ n) : 0 ≤ Ix.endOf 0 (entL q k) ∧ Ix.endOf 0 (entL q k) ≤ 2147483648 := by
 cases k with
 | zero => show (0 : Int) ≤ 0 ∧ (0 : Int) ≤ 2147483648; decide
 | succ k => rw [entL_succ, Ix.endOf_snoc]; have := h k (by omega); have := h2 k (by omega); omega
def ahead (S : List ByteArray) (k : Nat) : ByteArray := (S.take k).getLast?.getD ByteArray.empty
theorem ahead_succ (S : List ByteArray) {k : Nat} (hk : k < S.length) : ahead S (k + 1) = S.getD k ByteArray.empty := by
 have e : S.take (k + 1) = S.take k ++ [S[k]] := by rw [List.take_add_one, List.getElem?_eq_getElem hk]; rfl
 unfold ahead
 rw [e, List.getLast?_concat, List.getD_eq_getElem?_getD, List.getElem?_eq_getElem hk]
theorem ahead_size (S : List ByteArray) (h : ∀ x ∈ S, x.size ≤ 48) : ∀ k, k ≤ S.length → (ahead S k).size ≤ 48
 | 0, _ => by show (ByteArray.empty).size ≤ 48; decide
 | k + 1, hk => by
  rw [ahead_succ S (by omega)]
  exact h _ (by rw [List.getD_eq_getElem?_getD, List.getElem?_eq_getElem (by omega)]; exact List.getElem_mem (by omega))
set_option maxRecDepth 100000 in
set_option maxHeartbeats 8000000 in
theorem third_any0 (w0 : World) (A : Option Addr) (n c : Nat) (q : Nat → EAt) (b mb : Nat) (w : World) (h : EGood w0 A n q) (hw0 : Below w0.heap.size w0 w) (hw : Wr w w0.heap.size b mb ByteArray.empty) (hm : Places w mb (Ix.syms (entL q n)) 0) (hlo : w0.heap.size ≤ mb) (PB : ByteArray)
 (hpost : ∀ U (T : ByteArray), Below w0.heap.size w0 U → Wr U w0.heap.size b mb T → T.size ≤ 40000 → Calls Tryz.prog 69 #[.pointer (some ⟨b, 0, none⟩), .slice A n c] U fun e V => e = .returned (.tuple #[]) ∧ Wr V w0.heap.size b mb (T ++ PB) ∧ Below w0.heap.size U V) :
 Calls Tryz.prog 32 #[.pointer (some ⟨b, 0, none⟩), .slice A n c] w fun e w' => e = .returned (.tuple #[]) ∧ Wr w' w0.heap.size b mb (Num.smallB (Ix.syms (entL q n)).length ++ Ix.symsB true ByteArray.empty (Ix.syms (entL q n)) ++ (Num.smallB n ++ Ix.ents3 (Ix.syms (entL q n)) 0 0 (entL q n) ++ PB)) ∧ Below w0.heap.size w w' := by
 have HA := Lib.hid h; have HW0 := Lib.hid hw0
 have hn := h.few
 have HSY := Lib.hid (Symbols_any A n c q w (h.ents.later hw0))
 have HG := Lib.hid (sgood h)
 obtain ⟨S, hS⟩ : ∃ S, S = Ix.syms (entL q n) := ⟨_, rfl⟩
 rw [← hS] at HSY HG hm ⊢
 have hs240 := HG.out.few
 have HES := Lib.hid (Ix.ents3_bound S q h.labs); have HEN := Lib.hid (fun k => Ix.ents3_snoc S (q k).e (entL q k) 0 0); have HPO := Lib.hid hpost
 have HBS := Lib.hid hw0.size; have HW := Lib.hid hw; have HM := Lib.hid hm; have HLO := Lib.hid hlo
 clear h hw0 hS hw hm hlo hpost
 go_enter Tryz.func32, Tryz.ntmps32
 go_wp2_with fail
 refine HSY.out.mono ?_; rintro e w1 ⟨B, d, rfl, hsr, hb1⟩
 have HS1 : Hid (Sec w0 w w1 b mb S B 0 ByteArray.empty) := Lib.hid ⟨hb1.mono HBS.out, HW.out.later hb1, HM.out.later hb1, hsr, HLO.out⟩
 have hsz1 := hb1.size
 have hb2 : Below w1.heap.size w1 (w1.alloc (.cells #[.int .u64 (S.length : Int)] 103)) := (Below.refl _ _).alloc (Nat.le_refl _) _
 have HS2 := Lib.hid (HS1.out.later (by have := HBS.out; omega) hb2)
 have HSM := Lib.hid (built_any w0.heap.size b mb ByteArray.empty [S.length] _ w1.heap.size 1 1 (w1.alloc (.cells #[.int .u64 (S.length : Int)] 103)) HS2.out.wr (by decide) rfl (by simp) (fun n hn => by rw [List.mem_singleton.1 hn]; omega) (by have := hb2.size; have := HBS.out; omega) (heap_alloc_new w1 _) (one_cells S.length))
 rw [smalls_one, ByteArray.empty_append] at HSM
 have hu := u64w (n := (S.length : Int)) (by omega)
 clear hsr hb1 hb2 hsz1 HSY HS1 HW HM
 go_wp2_with fail
 refine HSM.out.mono ?_; rintro e w3 ⟨rfl, hw3, hr3⟩
 have HS3 := Lib.hid (HS2.out.step hr3 hw3)
 clear hw3 hr3 HSM HS2 hu
 have hz0 := Fr.small_le S.length
 generalize hT0 : Num.smallB S.length = T0 at *
 have HT0 := Lib.hid hT0
 clear hT0
 go_wp2_with fail
 go_loopw [5, 23] (fun ah i wr => ∃ k : Nat, k ≤ S.length ∧ i = .int .i64 k ∧ ah = .string (ahead S k) ∧ Sec w0 w wr b mb S B k (T0 ++ Ix.symsB true ByteArray.empty (S.take k))) (fun _ i _ => S.length - (intOf i).toNat)
 case atStart => exact ⟨0, by omega, rfl, rfl, by show Sec _ _ _ _ _ _ _ _ (T0 ++ ByteArray.empty); rw [ByteArray.append_empty]; exact HS3.out⟩
 case round =>
  obtain ⟨k, hk, rfl, rfl, hsec⟩ := hrel
  have HSE := Lib.hid hsec
  clear hsec
  have i0 : (0 : Int) ≤ (k : Int) := by omega
  by_cases hlt : k < S.length
  · have i1 : (k : Int) < (S.length : Int) := by omega
    have dd1 : decide ((k : Int) < (S.length : Int)) = true := decide_eq_true i1
    obtain ⟨ad, rfl, x0r, -⟩ := HSE.out.sy.row.at_ (Below.refl _ _) hlt
    have x0 : wr.cell? (ad.add k) = some (.string (S.getD k ByteArray.empty)) := by
     have h1 := x0r (by decide)
     rw [Nat.mul_one] at h1
     exact h1
    clear x0r
    have hmemk : S.getD k ByteArray.empty ∈ S := by rw [List.getD_eq_getElem?_getD, List.getElem?_eq_getElem hlt]; exact List.getElem_mem hlt
    have hzk := HG.out.short _ hmemk
    have hza := ahead_size S HG.out.short k hk
    have hws : w0.heap.size ≤ wr.heap.size := by have := HSE.out.bel.size; have := HW0.out.size; omega
    have HAH := Lib.hid (ahead_succ S hlt)
    have HTK : Hid (Ix.symsB true ByteArray.empty (S.take (k + 1)) = Ix.symsB true ByteArray.empty (S.take k) ++ (Num.smallB (Ix.shared (ahead S k) (S.getD k ByteArray.empty)) ++ Fr.txt ((S.getD k ByteArray.empty).extract (Ix.shared (ahead S k) (S.getD k ByteArray.empty)) (S.getD k ByteArray.empty).size))) := Lib.hid (by
     rw [List.take_add_one, List.getElem?_eq_getElem hlt, List.getD_eq_getElem?_getD, List.getElem?_eq_getElem hlt]
     exact Ix.symsB_snoc true _ _ _)
    have hsy := Ix.syms3_size (S.take k) ByteArray.empty (fun x hx => HG.out.short x (List.mem_of_mem_take hx))
    rw [List.length_take] at hsy
    have HSH := Lib.hid (shared_any (ahead S k) (S.getD k ByteArray.empty) (by omega) (by omega) wr)
    have hsl := (Ix.shared_le (ahead S k) (S.getD k ByteArray.empty)).2
    have HPT := Lib.hid (fun U (hs : Sec w0 w U b mb S (some ad) k (T0 ++ Ix.symsB true ByteArray.empty (S.take k))) hu => hs.put HG.out.rise hlt (by unfold maxLen; omega) hu)
    generalize Ix.shared (ahead S k) (S.getD k ByteArray.empty) = m at *
    generalize ahead S k = ah at *
    have HTX := Lib.hid (fun U => Text_any ((S.getD k ByteArray.empty).extract m (S.getD k ByteArray.empty).size) (by rw [ByteArray.size_extract]; omega) U)
    have hft : Num.smallB ((S.getD k ByteArray.empty).extract m (S.getD k ByteArray.empty).size).size ++ (S.getD k ByteArray.empty).extract m (S.getD k ByteArray.empty).size = Fr.txt ((S.getD k ByteArray.empty).extract m (S.getD k ByteArray.empty).size) := rfl
    have hftz := Fr.txt_size ((S.getD k ByteArray.empty).extract m (S.getD k ByteArray.empty).size)
    have hst := Fr.small_le ((S.getD k ByteArray.empty).extract m (S.getD k ByteArray.empty).size).size
    rw [ByteArray.size_extract] at hftz hst
    rw [hft] at HTX
    generalize Fr.txt ((S.getD k ByteArray.empty).extract m (S.getD k ByteArray.empty).size) = tx at *
    generalize S.getD k ByteArray.empty = s at *
    have hsm := Fr.small_le m
    clear hmemk hft
    go_wp2_with fail
    clear x0
    refine HSH.out.mono ?_; rintro e w4 ⟨rfl, hb4⟩
    have hs4 := hb4.size
    obtain ⟨V, hrun, hsec2, hvs⟩ := HPT.out w4 (HSE.out.later hws hb4) (by omega)
    have hq2 := WrAt.map (HSE.out.later hws hb4).wr
    have hb5 : Below V.heap.size V (V.alloc (.cells #[.int .u64 (m : Int)] 103)) := (Below.refl _ _).alloc (Nat.le_refl _) _
    have HS5 := Lib.hid (hsec2.later (by omega) hb5)
    have HSM := Lib.hid (built_any w0.heap.size b mb (T0 ++ Ix.symsB true ByteArray.empty (S.take k)) [m] _ V.heap.size 1 1 (V.alloc (.cells #[.int .u64 (m : Int)] 103)) HS5.out.wr (by rw [ByteArray.size_append]; omega) rfl (by simp) (fun n hn => by rw [List.mem_singleton.1 hn]; omega) (by have := hb5.size; omega) (heap_alloc_new V _) (one_cells m))
    rw [smalls_one, hvs] at HSM
    have hu := u64w (n := (m : Int)) (by omega)
    have hvz := hb5.size
    clear hb4 hsec2 hb5 HPT HSH HSE
    go_upto_region 8 with fail
    clear hrun hq2
    go_wp2_with fail
    refine HSM.out.mono ?_; rintro e w6 ⟨rfl, hw6, hr6⟩
    have HS6 := Lib.hid (HS5.out.step hr6 hw6)
    have hs6 := hr6.size
    clear hw6 hr6 HSM HS5
    have m0 : (0 : Int) ≤ (m : Int) := by omega
    have m1 : (m : Int) ≤ (s.size : Int) := by omega
    go_wp2_with fail
    try rw [Int.toNat_natCast]
    refine (HTX.out w6).mono ?_; rintro e w7 ⟨rfl, hb7⟩
    have HS7 := Lib.hid (HS6.out.later (by omega) hb7)
    have HT7 := Lib.hid (text_any w0.heap.size b mb (T0 ++ Ix.symsB true ByteArray.empty (S.take k) ++ Num.smallB m) tx w7 HS7.out.wr (by simp only [ByteArray.size_append]; omega) (by have := hb7.size; omega))
    clear hb7 HTX HS6
    go_wp2_with fail
    refine HT7.out.mono ?_; rintro e w8 ⟨rfl, hw8, hr8⟩
    have HS8 := Lib.hid (HS7.out.step hr8 hw8)
    clear hw8 hr8 HT7 HS7
    go_wp2_with fail
    go_roundw
    case rel => exact ⟨k + 1, by omega, by go_num, by rw [HAH.out], by rw [HTK.out]; have h8 := HS8.out; simp only [ByteArray.append_assoc] at h8 ⊢; exact h8⟩
    case measure => simp [intOf]; omega
  · obtain rfl : k = S.length := by omega
    have dd1 : decide ((S.length : Int) < (S.length : Int)) = false := decide_eq_false (by omega)
    have hsec := HSE.out
    rw [List.take_length] at hsec
    have hsy := Ix.syms3_size S ByteArray.empty HG.out.short
    obtain ⟨T1, hT1⟩ : ∃ T1, T1 = T0 ++ Ix.symsB true ByteArray.empty S := ⟨_, rfl⟩
    have hT1z : T1.size ≤ 20000 := by rw [hT1, ByteArray.size_append]; omega
    rw [← hT1] at hsec
    have HT1 := Lib.hid hT1
    have hws : w0.heap.size ≤ wr.heap.size := by have := hsec.bel.size; have := HW0.out.size; omega
    have hb2 : Below wr.heap.size wr (wr.alloc (.cells #[.int .u64 (n : Int)] 103)) := (Below.refl _ _).alloc (Nat.le_refl _) _
    have HS2 := Lib.hid (hsec.later hws hb2)
    have HSM := Lib.hid (built_any w0.heap.size b mb T1 [n] _ wr.heap.size 1 1 (wr.alloc (.cells #[.int .u64 (n : Int)] 103)) HS2.out.wr (by omega) rfl (by simp) (fun n hn => by rw [List.mem_singleton.1 hn]; omega) (by have := hb2.size; omega) (heap_alloc_new wr _) (one_cells n))
    rw [smalls_one] at HSM
    have hu := u64w (n := (n : Int)) (by omega)
    clear hsec hb2 hT1 hsy HSE HS3
    go_wp2_with fail
    refine HSM.out.mono ?_; rintro e w3 ⟨rfl, hw3, hr3⟩
    have HS3 := Lib.hid (HS2.out.step hr3 hw3)
    clear hw3 hr3 HSM HS2 hu
    have hz1 := Fr.small_le n
    generalize hT2 : T1 ++ Num.smallB n = T2 at *
    have hT2z : T2.size ≤ 20010 := by rw [← hT2, ByteArray.size_append]; omega
    have HT2 := Lib.hid hT2
    clear hT2 hz1
    go_wp2_with fail
    go_loopw [9, 10, 58] (fun l z i wr => ∃ k : Nat, k ≤ n ∧ i = .int .i64 k ∧ l = .int .i64 (Ix.lastOf 0 (entL q k)) ∧ z = .int .i64 (Ix.endOf 0 (entL q k)) ∧ Sec w0 w wr b mb S B S.length (T2 ++ Ix.ents3 S 0 0 (entL q k))) (fun _ _ i _ => n - (intOf i).toNat)
    case atStart => exact ⟨0, by omega, rfl, rfl, rfl, by show Sec _ _ _ _ _ _ _ _ (T2 ++ ByteArray.empty); rw [ByteArray.append_empty]; exact HS3.out⟩
    case round =>
     obtain ⟨k, hk, rfl, rfl, rfl, hsec⟩ := hrel
     have HSE := Lib.hid hsec
     clear hsec dd1
     have i0 : (0 : Int) ≤ (k : Int) := by omega
     by_cases hlt : k < n
     · have i1 : (k : Int) < (n : Int) := by omega
       have dd1 : decide ((k : Int) < (n : Int)) = true := decide_eq_true i1
       have hws : w0.heap.size ≤ wr.heap.size := by have := HSE.out.bel.size; have := HW0.out.size; omega
       have hb0 := HW0.out.trans HSE.out.bel
       obtain ⟨ad, rfl, x0, x1, x2, x3⟩ := HA.out.ents.cells hb0 hlt
       have hl6 := HA.out.labs k hlt
       have r1 := HA.out.last k hlt; have r2 := HA.out.off k hlt; have r3 := HA.out.len k hlt
       have hes := HES.out k (by omega)
       have hla := last_in q HA.out.last (k := k) (by omega)
       have hen := end_in q HA.out.off HA.out.len (k := k) (by omega)
       have HSN := Lib.hid (HEN.out k)
       have HL1 : Hid (Ix.lastOf 0 (entL q (k + 1)) = (q k).e.last) := Lib.hid (by rw [entL_succ, Ix.lastOf_snoc])
       have HE1 : Hid (Ix.endOf 0 (entL q (k + 1)) = (q k).e.off + (q k).e.len) := Lib.hid (by rw [entL_succ, Ix.endOf_snoc])
       obtain ⟨T3, hT3⟩ : ∃ T3, T3 = T2 ++ Ix.ents3 S 0 0 (entL q k) := ⟨_, rfl⟩
       have hT3z : T3.size ≤ 24000 := by rw [hT3, ByteArray.size_append]; omega
       rw [← hT3] at HSE
       have HT3 := Lib.hid hT3
       generalize Ix.lastOf 0 (entL q k) = la at *
       generalize Ix.endOf 0 (entL q k) = en at *
       obtain ⟨w5, hw5⟩ : ∃ w5, w5 = wr.alloc (.cells (entC (q k)) 59) := ⟨_, rfl⟩
       have hb5 : Below wr.heap.size wr w5 := by rw [hw5]; exact (Below.refl _ _).alloc (Nat.le_refl _) _
       have hy5 : w5.heap[wr.heap.size]? = some (.cells (entC (q k)) 59 (0, 0)) := by rw [hw5]; exact heap_alloc_new wr _
       have HS5 := Lib.hid (HSE.out.later hws hb5)
       have HLB := Lib.hid (labels_any w0 (q k) b mb S T3 w5 (HA.out.ents.each k hlt).row hl6 (by omega) (HG.out.mem k hlt) (HA.out.short k hlt) (by omega) (hb0.trans (hb5.mono hws)) HS5.out.wr HS5.out.pl)
       have hlbz := Ix.labsB_size S (q k).e.l
       unfold entC at hw5 hy5 HLB
       have y0 := cell_of_row _ _ 0 _ _ _ hy5; have y1 := cell_of_row _ _ 1 _ _ _ hy5; have y2 := cell_of_row _ _ 2 _ _ _ hy5; have y3 := cell_of_row _ _ 3 _ _ _ hy5
       simp only [List.getElem?_toArray, List.getElem?_cons_zero, List.getElem?_cons_succ] at y0 y1 y2 y3
       obtain ⟨eb, heb⟩ : ∃ eb, eb = wr.heap.size := ⟨_, rfl⟩
       rw [← heb] at y0 y1 y2 y3 hy5
       have HY5 := Lib.hid hy5
       have hsn5 := hb5.size
       clear hb0 hT3 hb5 hy5 hes HSE
       go_upto_region 17 with fail
       rw [← hw5, ← heb]
       clear hw5 heb x0 x1 x2 x3
       go_wp2_with fail
       refine HLB.out.mono ?_; rintro e w7 ⟨rfl, hw7, hr7⟩
       have HS7 := Lib.hid (HS5.out.step hr7 hw7)
       have hy7 := hr7.block HY5.out (by decide)
       have HY7 := Lib.hid hy7
       clear y0 y1 y2 y3 hw7
       have hsz7 := hr7.size
       obtain ⟨T4, hT4⟩ : ∃ T4, T4 = T3 ++ (Num.smallB (q k).e.l.length ++ Ix.labsB S (q k).e.l) := ⟨_, rfl⟩
       have hnl := Fr.small_le (q k).e.l.length
       have hT4z : T4.size ≤ 26000 := by rw [hT4]; simp only [ByteArray.size_append]; omega
       rw [← hT4] at HS7
       have hone : T4 ++ (Num.smallB (Num.zig ((q k).e.last - la)) ++ Num.smallB (Num.zig ((q k).e.off - en)) ++ Num.smallB (Ix.u64 (q k).e.len)) = T3 ++ Ix.one3 S la en (q k).e := by
        rw [hT4, ByteArray.append_assoc]; rfl
       have HONE := Lib.hid hone
       have hc3 := three_u64 (Num.zig ((q k).e.last - la)) (Num.zig ((q k).e.off - en)) (Ix.u64 (q k).e.len)
       rw [u64c (n := (q k).e.len) (by omega)] at hc3
       have HC3 := Lib.hid hc3
       have HZ1 := Lib.hid (fun U => Zig_any ((q k).e.last - la) (Lib.hid (by omega)) U)
       have HZ2 := Lib.hid (fun U => Zig_any ((q k).e.off - en) (Lib.hid (by omega)) U)
       have hz1 : Num.zig ((q k).e.last - la) < 18446744073709551616 := Num.zig_lt _ (by omega) (by omega)
       have hz2 : Num.zig ((q k).e.off - en) < 18446744073709551616 := Num.zig_lt _ (by omega) (by omega)
       have HU3 := Lib.hid (Ix.u64_lt (q k).e.len)
       have hu3 := u64w (n := (q k).e.len) (by omega)
       have hv1 : IntKind.i64.wrap ((q k).e.last - la) = (q k).e.last - la := by rw [IntKind.wrap_i64]; omega
       have hv2 : IntKind.i64.wrap ((q k).e.off - en) = (q k).e.off - en := by rw [IntKind.wrap_i64]; omega
       have hv3 : IntKind.i64.wrap ((q k).e.off + (q k).e.len) = (q k).e.off + (q k).e.len := by rw [IntKind.wrap_i64]; omega
       clear hr7 hy7 hc3 hone hT4 HLB HS5 HY5 hlbz hnl
       generalize (q k).e.last = lx at *
       generalize (q k).e.off = ox at *
       generalize Num.zig (lx - la) = z1 at *
       generalize Num.zig (ox - en) = z2 at *
       generalize Ix.u64 (q k).e.len = z3 at *
       generalize (q k).e.len = ex at *
       go_upto_region 18 with fail
       refine plain_robJ [(0, some 65), (1, some 66), (2, some 67), (3, some 68), (4, some 69), (5, some 70), (6, some 71), (7, some 72), (8, some 73), (9, some 74), (10, some 75), (11, some 76), (12, some 77), (13, some 78), (14, some 79)] [15] (fun U V => Below U.heap.size U V) (fun U => Below w7.heap.size w7 U) [(0, .pointer (some ⟨b, 0, none⟩)), (1, .pointer (some ⟨eb, 1, none⟩)), (2, .int .i64 lx), (3, .int .i64 la), (4, .int .i64 (lx - la)), (5, .int .u64 (z1 : Int)), (6, .pointer (some ⟨eb, 2, none⟩)), (7, .int .i64 ox), (8, .int .i64 en), (9, .int .i64 (ox - en)), (10, .int .u64 (z2 : Int)), (11, .pointer (some ⟨eb, 3, none⟩)), (12, .int .i64 ex), (13, .int .u64 ex)] [(14, (fun v W => ∃ bb, v = .slice (some ⟨bb, 0, none⟩) 3 3 ∧ W.heap[bb]? = some (.cells #[.int .u64 (z1 : Int), .int .u64 (z2 : Int), .int .u64 ex] 103 (0, 0)) : Value → World → Prop))] 1 (by kernel_rfl) (by kernel_rfl) (by kernel_rfl) ((Below.refl _ _).drew) (fun U V h hb => below_step h hb) ?_ ?_ ?_
       · intro p hp
         simp only [List.mem_cons, List.not_mem_nil, or_false] at hp
         subst hp
         exact fun v U V h hb => by obtain ⟨bb, e, hc⟩ := h; exact ⟨bb, e, heap_keep hc hb⟩
       · refine ⟨⟨_, rfl, fun ν U hU hp => ?_⟩, ?_⟩
         · simp only [putsν, Act.put, List.setIfInBounds_toArray, List.set_cons_zero, List.set_cons_succ]
           exact Yld.value (.pointer (some ⟨b, 0, none⟩)) U (by kernel_rfl) (by go_simp) ⟨Below.refl _ _, Fx.fixed rfl rfl⟩
         refine ⟨⟨_, rfl, fun ν U hU hp => ?_⟩, ?_⟩
         · simp only [putsν, Act.put, List.setIfInBounds_toArray, List.set_cons_zero, List.set_cons_succ]
           exact Yld.value (.pointer (some ⟨eb, 1, none⟩)) U (by kernel_rfl) (by go_simp) ⟨Below.refl _ _, Fx.fixed rfl rfl⟩
         refine ⟨⟨_, rfl, fun ν U hU hp => ?_⟩, ?_⟩
         · simp only [putsν, Act.put, List.setIfInBounds_toArray, List.set_cons_zero, List.set_cons_succ]
           have e1 := (hp 1 (by kernel_rfl) (by kernel_rfl)).val _ rfl
           simp only [e1]
           exact Yld.value (.int .i64 lx) U (by kernel_rfl) (by have h0 : U.cell? ⟨eb, 1, none⟩ = some (.int .i64 lx) := cell_of_row _ _ _ _ _ _ (heap_keep HY7.out hU); go_simp) ⟨Below.refl _ _, Fx.fixed rfl rfl⟩
         refine ⟨⟨_, rfl, fun ν U hU hp => ?_⟩, ?_⟩
         · simp only [putsν, Act.put, List.setIfInBounds_toArray, List.set_cons_zero, List.set_cons_succ]
           exact Yld.value (.int .i64 la) U (by kernel_rfl) (by go_simp) ⟨Below.refl _ _, Fx.fixed rfl rfl⟩
         refine ⟨⟨_, rfl, fun ν U hU hp => ?_⟩, ?_⟩
         · simp only [putsν, Act.put, List.setIfInBounds_toArray, List.set_cons_zero, List.set_cons_succ]
           have e2 := (hp 2 (by kernel_rfl) (by kernel_rfl)).val _ rfl
           have e3 := (hp 3 (by kernel_rfl) (by kernel_rfl)).val _ rfl
           simp only [e2, e3]
           exact Yld.value (.int .i64 (lx - la)) U (by kernel_rfl) (by go_simp) ⟨Below.refl _ _, Fx.fixed rfl rfl⟩
         refine ⟨⟨_, rfl, fun ν U hU hp => ?_⟩, ?_⟩
         · simp only [putsν, Act.put, List.setIfInBounds_toArray, List.set_cons_zero, List.set_cons_succ]
           have e4 := (hp 4 (by kernel_rfl) (by kernel_rfl)).val _ rfl
           simp only [e4]
           refine Yld.call 68 #[.int .i64 (lx - la)] (by kernel_rfl) (by go_simp) ?_
           have hcall := HZ1.out U
           refine hcall.mono ?_
           rintro e V ⟨rfl, rfl⟩; exact ⟨_, rfl, Below.refl _ _, Fx.fixed rfl rfl⟩
         refine ⟨⟨_, rfl, fun ν U hU hp => ?_⟩, ?_⟩
         · simp only [putsν, Act.put, List.setIfInBounds_toArray, List.set_cons_zero, List.set_cons_succ]
           exact Yld.value (.pointer (some ⟨eb, 2, none⟩)) U (by kernel_rfl) (by go_simp) ⟨Below.refl _ _, Fx.fixed rfl rfl⟩
         refine ⟨⟨_, rfl, fun ν U hU hp => ?_⟩, ?_⟩
         · simp only [putsν, Act.put, List.setIfInBounds_toArray, List.set_cons_zero, List.set_cons_succ]
           have e6 := (hp 6 (by kernel_rfl) (by kernel_rfl)).val _ rfl
           simp only [e6]
           exact Yld.value (.int .i64 ox) U (by kernel_rfl) (by have h0 : U.cell? ⟨eb, 2, none⟩ = some (.int .i64 ox) := cell_of_row _ _ _ _ _ _ (heap_keep HY7.out hU); go_simp) ⟨Below.refl _ _, Fx.fixed rfl rfl⟩
         refine ⟨⟨_, rfl, fun ν U hU hp => ?_⟩, ?_⟩
         · simp only [putsν, Act.put, List.setIfInBounds_toArray, List.set_cons_zero, List.set_cons_succ]
           exact Yld.value (.int .i64 en) U (by kernel_rfl) (by go_simp) ⟨Below.refl _ _, Fx.fixed rfl rfl⟩
         refine ⟨⟨_, rfl, fun ν U hU hp => ?_⟩, ?_⟩
         · simp only [putsν, Act.put, List.setIfInBounds_toArray, List.set_cons_zero, List.set_cons_succ]
           have e7 := (hp 7 (by kernel_rfl) (by kernel_rfl)).val _ rfl
           have e8 := (hp 8 (by kernel_rfl) (by kernel_rfl)).val _ rfl
           simp only [e7, e8]
           exact Yld.value (.int .i64 (ox - en)) U (by kernel_rfl) (by go_simp) ⟨Below.refl _ _, Fx.fixed rfl rfl⟩
         refine ⟨⟨_, rfl, fun ν U hU hp => ?_⟩, ?_⟩
         · simp only [putsν, Act.put, List.setIfInBounds_toArray, List.set_cons_zero, List.set_cons_succ]
           have e9 := (hp 9 (by kernel_rfl) (by kernel_rfl)).val _ rfl
           simp only [e9]
           refine Yld.call 68 #[.int .i64 (ox - en)] (by kernel_rfl) (by go_simp) ?_
           have hcall := HZ2.out U
           refine hcall.mono ?_
           rintro e V ⟨rfl, rfl⟩; exact ⟨_, rfl, Below.refl _ _, Fx.fixed rfl rfl⟩
         refine ⟨⟨_, rfl, fun ν U hU hp => ?_⟩, ?_⟩
         · simp only [putsν, Act.put, List.setIfInBounds_toArray, List.set_cons_zero, List.set_cons_succ]
           exact Yld.value (.pointer (some ⟨eb, 3, none⟩)) U (by kernel_rfl) (by go_simp) ⟨Below.refl _ _, Fx.fixed rfl rfl⟩
         refine ⟨⟨_, rfl, fun ν U hU hp => ?_⟩, ?_⟩
         · simp only [putsν, Act.put, List.setIfInBounds_toArray, List.set_cons_zero, List.set_cons_succ]
           have e11 := (hp 11 (by kernel_rfl) (by kernel_rfl)).val _ rfl
           simp only [e11]
           exact Yld.value (.int .i64 ex) U (by kernel_rfl) (by have h0 : U.cell? ⟨eb, 3, none⟩ = some (.int .i64 ex) := cell_of_row _ _ _ _ _ _ (heap_keep HY7.out hU); go_simp) ⟨Below.refl _ _, Fx.fixed rfl rfl⟩
         refine ⟨⟨_, rfl, fun ν U hU hp => ?_⟩, ?_⟩
         · simp only [putsν, Act.put, List.setIfInBounds_toArray, List.set_cons_zero, List.set_cons_succ]
           have e12 := (hp 12 (by kernel_rfl) (by kernel_rfl)).val _ rfl
           simp only [e12]
           exact Yld.value (.int .u64 ex) U (by kernel_rfl) (by go_simp) ⟨Below.refl _ _, Fx.fixed rfl rfl⟩
         refine ⟨⟨_, rfl, fun ν U hU hp => ?_⟩, ?_⟩
         · simp only [putsν, Act.put, List.setIfInBounds_toArray, List.set_cons_zero, List.set_cons_succ]
           have e5 := (hp 5 (by kernel_rfl) (by kernel_rfl)).val _ rfl
           have e10 := (hp 10 (by kernel_rfl) (by kernel_rfl)).val _ rfl
           have e13 := (hp 13 (by kernel_rfl) (by kernel_rfl)).val _ rfl
           simp only [e5, e10, e13]
           exact Yld.value (.slice (some ⟨U.heap.size, 0, none⟩) 3 3) _ (by kernel_rfl) (by go_simp) ⟨(Below.refl _ _).alloc (Nat.le_refl _) _, Fx.some_ rfl rfl ⟨_, rfl, heap_alloc_new U _⟩⟩
         trivial
       intro ν w9 hS9 hf
       have e0 := (hf 0 (by kernel_rfl)).val _ rfl
       have e1 := (hf 1 (by kernel_rfl)).val _ rfl
       have e2 := (hf 2 (by kernel_rfl)).val _ rfl
       have e3 := (hf 3 (by kernel_rfl)).val _ rfl
       have e4 := (hf 4 (by kernel_rfl)).val _ rfl
       have e5 := (hf 5 (by kernel_rfl)).val _ rfl
       have e6 := (hf 6 (by kernel_rfl)).val _ rfl
       have e7 := (hf 7 (by kernel_rfl)).val _ rfl
       have e8 := (hf 8 (by kernel_rfl)).val _ rfl
       have e9 := (hf 9 (by kernel_rfl)).val _ rfl
       have e10 := (hf 10 (by kernel_rfl)).val _ rfl
       have e11 := (hf 11 (by kernel_rfl)).val _ rfl
       have e12 := (hf 12 (by kernel_rfl)).val _ rfl
       have e13 := (hf 13 (by kernel_rfl)).val _ rfl
       have c14 := (hf 14 (by kernel_rfl)).is _ rfl
       simp only [putsν, Act.put, List.setIfInBounds_toArray, List.set_cons_zero, List.set_cons_succ, e0, e1, e2, e3, e4, e5, e6, e7, e8, e9, e10, e11, e12, e13]
       clear hf e0 e1 e2 e3 e4 e5 e6 e7 e8 e9 e10 e11 e12 e13
       obtain ⟨bb, hv, hbb⟩ := c14
       simp only [hv]
       clear hv
       refine wpAnyT_one (i := 15) (by kernel_rfl) rfl (by kernel_rfl) ?_
       intro K0 hK
       unfold Oper.wp
       go_simp
       have HS9 := Lib.hid (HS7.out.later (by omega) hS9)
       have hsm := built_any w0.heap.size b mb T4 [z1, z2, z3] _ bb 3 3 w9 HS9.out.wr (by omega) rfl (by simp) (fun n hn => by
        rcases List.mem_cons.1 hn with e | e
        · omega
        · rcases List.mem_cons.1 e with e | e
          · omega
          · rw [List.mem_singleton.1 e]; exact HU3.out) (by have := hS9.size; omega) hbb HC3.out
       rw [smalls_three, HONE.out] at hsm
       refine hsm.mono ?_; rintro e w10 ⟨rfl, hw10, hr10⟩
       have HS10 := Lib.hid (HS9.out.step hr10 hw10)
       have HY10 := Lib.hid (hr10.block (heap_keep HY7.out hS9) (by decide))
       clear hw10 hr10 hS9 hsm hbb HS9 HS7 HY7 HZ1 HZ2 hv1 hv2
       refine hK _ _ (fun _ => trivial) ?_
       clear hK K0
       refine wpAnyT_done (by kernel_rfl) ?_ _
       refine only_mk ?_
       go_upto_region 19 with fail
       refine plain_robJ [(0, some 81), (1, some 82), (2, some 83), (3, some 84), (4, some 85), (5, some 86), (6, some 87), (7, some 9), (8, some 10)] [] (fun U V => Below U.heap.size U V) (fun U => Below w10.heap.size w10 U) [(0, .pointer (some ⟨eb, 1, none⟩)), (1, .int .i64 lx), (2, .pointer (some ⟨eb, 2, none⟩)), (3, .int .i64 ox), (4, .pointer (some ⟨eb, 3, none⟩)), (5, .int .i64 ex), (6, .int .i64 (ox + ex)), (7, .int .i64 lx), (8, .int .i64 (ox + ex))] [] 0 (by kernel_rfl) (by kernel_rfl) (by kernel_rfl) ((Below.refl _ _).drew) (fun U V h hb => below_step h hb) ?_ ?_ ?_
       · intro p hp; cases hp
       · refine ⟨⟨_, rfl, fun ν U hU hp => ?_⟩, ?_⟩
         · simp only [putsν, Act.put, List.setIfInBounds_toArray, List.set_cons_zero, List.set_cons_succ]
           exact Yld.value (.pointer (some ⟨eb, 1, none⟩)) U (by kernel_rfl) (by go_simp) ⟨Below.refl _ _, Fx.fixed rfl rfl⟩
         refine ⟨⟨_, rfl, fun ν U hU hp => ?_⟩, ?_⟩
         · simp only [putsν, Act.put, List.setIfInBounds_toArray, List.set_cons_zero, List.set_cons_succ]
           have e0 := (hp 0 (by kernel_rfl) (by kernel_rfl)).val _ rfl
           simp only [e0]
           exact Yld.value (.int .i64 lx) U (by kernel_rfl) (by have h0 : U.cell? ⟨eb, 1, none⟩ = some (.int .i64 lx) := cell_of_row _ _ _ _ _ _ (heap_keep HY10.out hU); go_simp) ⟨Below.refl _ _, Fx.fixed rfl rfl⟩
         refine ⟨⟨_, rfl, fun ν U hU hp => ?_⟩, ?_⟩
         · simp only [putsν, Act.put, List.setIfInBounds_toArray, List.set_cons_zero, List.set_cons_succ]
           exact Yld.value (.pointer (some ⟨eb, 2, none⟩)) U (by kernel_rfl) (by go_simp) ⟨Below.refl _ _, Fx.fixed rfl rfl⟩
         refine ⟨⟨_, rfl, fun ν U hU hp => ?_⟩, ?_⟩
         · simp only [putsν, Act.put, List.setIfInBounds_toArray, List.set_cons_zero, List.set_cons_succ]
           have e2 := (hp 2 (by kernel_rfl) (by kernel_rfl)).val _ rfl
           simp only [e2]
           exact Yld.value (.int .i64 ox) U (by kernel_rfl) (by have h0 : U.cell? ⟨eb, 2, none⟩ = some (.int .i64 ox) := cell_of_row _ _ _ _ _ _ (heap_keep HY10.out hU); go_simp) ⟨Below.refl _ _, Fx.fixed rfl rfl⟩
         refine ⟨⟨_, rfl, fun ν U hU hp => ?_⟩, ?_⟩
         · simp only [putsν, Act.put, List.setIfInBounds_toArray, List.set_cons_zero, List.set_cons_succ]
           exact Yld.value (.pointer (some ⟨eb, 3, none⟩)) U (by kernel_rfl) (by go_simp) ⟨Below.refl _ _, Fx.fixed rfl rfl⟩
         refine ⟨⟨_, rfl, fun ν U hU hp => ?_⟩, ?_⟩
         · simp only [putsν, Act.put, List.setIfInBounds_toArray, List.set_cons_zero, List.set_cons_succ]
           have e4 := (hp 4 (by kernel_rfl) (by kernel_rfl)).val _ rfl
           simp only [e4]
           exact Yld.value (.int .i64 ex) U (by kernel_rfl) (by have h0 : U.cell? ⟨eb, 3, none⟩ = some (.int .i64 ex) := cell_of_row _ _ _ _ _ _ (heap_keep HY10.out hU); go_simp) ⟨Below.refl _ _, Fx.fixed rfl rfl⟩
         refine ⟨⟨_, rfl, fun ν U hU hp => ?_⟩, ?_⟩
         · simp only [putsν, Act.put, List.setIfInBounds_toArray, List.set_cons_zero, List.set_cons_succ]
           have e3 := (hp 3 (by kernel_rfl) (by kernel_rfl)).val _ rfl
           have e5 := (hp 5 (by kernel_rfl) (by kernel_rfl)).val _ rfl
           simp only [e3, e5]
           exact Yld.value (.int .i64 (ox + ex)) U (by kernel_rfl) (by go_simp) ⟨Below.refl _ _, Fx.fixed rfl rfl⟩
         refine ⟨⟨_, rfl, fun ν U hU hp => ?_⟩, ?_⟩
         · simp only [putsν, Act.put, List.setIfInBounds_toArray, List.set_cons_zero, List.set_cons_succ]
           have e1 := (hp 1 (by kernel_rfl) (by kernel_rfl)).val _ rfl
           simp only [e1]
           exact Yld.value (.int .i64 lx) U (by kernel_rfl) (by go_simp) ⟨Below.refl _ _, Fx.fixed rfl rfl⟩
         refine ⟨⟨_, rfl, fun ν U hU hp => ?_⟩, ?_⟩
         · simp only [putsν, Act.put, List.setIfInBounds_toArray, List.set_cons_zero, List.set_cons_succ]
           have e6 := (hp 6 (by kernel_rfl) (by kernel_rfl)).val _ rfl
           simp only [e6]
           exact Yld.value (.int .i64 (ox + ex)) U (by kernel_rfl) (by go_simp) ⟨Below.refl _ _, Fx.fixed rfl rfl⟩
         trivial
       intro ν w11 hS11 hf
       have e0 := (hf 0 (by kernel_rfl)).val _ rfl
       have e1 := (hf 1 (by kernel_rfl)).val _ rfl
       have e2 := (hf 2 (by kernel_rfl)).val _ rfl
       have e3 := (hf 3 (by kernel_rfl)).val _ rfl
       have e4 := (hf 4 (by kernel_rfl)).val _ rfl
       have e5 := (hf 5 (by kernel_rfl)).val _ rfl
       have e6 := (hf 6 (by kernel_rfl)).val _ rfl
       have e7 := (hf 7 (by kernel_rfl)).val _ rfl
       have e8 := (hf 8 (by kernel_rfl)).val _ rfl
       simp only [putsν, Act.put, List.setIfInBounds_toArray, List.set_cons_zero, List.set_cons_succ, e0, e1, e2, e3, e4, e5, e6, e7, e8]
       clear hf e0 e1 e2 e3 e4 e5 e6 e7 e8
       refine wpAnyT_done (by kernel_rfl) ?_ _
       refine only_mk ?_
       have HS11 := Lib.hid (HS10.out.later (by have := HS10.out.bel.size; have := HW0.out.size; omega) hS11)
       clear hS11 HS10 HY10
       go_wp2_with fail
       go_roundw
       case rel => exact ⟨k + 1, by omega, by go_num, by rw [HL1.out], by rw [HE1.out], by rw [entL_succ, HSN.out]; have h10 := HS11.out; rw [HT3.out] at h10; simp only [ByteArray.append_assoc] at h10 ⊢; exact h10⟩
       case measure => simp [intOf]; omega
     · obtain rfl : k = n := by omega
       have dd2 : decide ((k : Int) < (k : Int)) = false := decide_eq_false (by omega)
       have hes := HES.out k (by omega)
       have HPS := Lib.hid (HPO.out wr (T2 ++ Ix.ents3 S 0 0 (entL q k)) (HW0.out.trans HSE.out.bel) HSE.out.wr (by rw [ByteArray.size_append]; omega))
       have hws : w0.heap.size ≤ wr.heap.size := by have := HSE.out.bel.size; have := HW0.out.size; omega
       clear hes HPO
       go_wp2_with fail
       refine HPS.out.mono ?_; rintro e w9 ⟨rfl, hr, hb9⟩
       go_wp2_with fail
       go_end0
       rw [← HT2.out, HT1.out, ← HT0.out] at hr
       refine ⟨rfl, ?_, HSE.out.bel.trans hb9⟩
       simp only [ByteArray.append_assoc] at hr ⊢
       exact hr
end Go.Proofs.YtliobahnekohmaaGreat
/-
  Labels in order: the closure that compares, and what sorting comes to.
-/
namespace Go.Proofs.YtliobahnekohmaaGreat
open Go.RowKit
open Go.Sort (grow alloc_eq_grow)
def Gr (U V : World) : Prop := ∃ q os, V = grow (U.drewN q) os
theorem Gr.refl (U : World) : Gr U U := ⟨0, #[], by simp [grow, World.drewN]⟩
theorem Gr.trans {U V W : World} (h : Gr U V) (h2 : Gr V W) : Gr U W := by
 obtain ⟨q, os, rfl⟩ := h
 obtain ⟨q2, os2, rfl⟩ := h2
 exact ⟨q + q2, os ++ os2, by simp [grow, World.drewN, Nat.add_assoc, Array.append_assoc]⟩
theorem Gr.alloc (U : World) (o : Obj) : Gr U (U.alloc o) := ⟨0, #[o], by rw [alloc_eq_grow]; rfl⟩
theorem Gr.drew (U : World) : Gr U U.drew := ⟨1, #[], by unfold grow; rw [Array.append_empty]; rfl⟩
theorem Gr.below {U V : World} (h : Gr U V) : Below U.heap.size U V := by
 obtain ⟨q, os, rfl⟩ := h
 refine ⟨rfl, rfl, rfl, by simp [grow, World.drewN], fun k hk => ?_⟩
 show (U.heap ++ os)[k]? = _
 rw [Array.getElem?_append_left hk]
def cmpS (x y : ByteArray) : Int := if La.less x y = true then -1 else if La.less y x = true then 1 else 0
def cmpL (x y : Lab) : Int := if cmpS x.1 y.1 = 0 then cmpS x.2 y.2 else cmpS x.1 y.1
theorem isNaN_any (x : ByteArray) (w : World) : Calls Tryz.prog 139 #[.string x] w fun e w' => e = .returned (.bool false) ∧ w = w' := by
 go_enter Tryz.func139, Tryz.ntmps139
 go_wp2_with fail
 go_ret
 exact ⟨rfl, rfl⟩
theorem compare_walk (x y : ByteArray) (r : Int) (hr : (La.less x y = true ∧ r = -1) ∨ (La.less x y = false ∧ La.less y x = true ∧ r = 1) ∨ (La.less x y = false ∧ La.less y x = false ∧ r = 0)) (w : World) : Calls Tryz.prog 108 #[.string x, .string y] w fun e w' => e = .returned (.int .i64 r) ∧ w = w' := by
 have hx := Lib.hid (isNaN_any x w)
 have hy := Lib.hid (isNaN_any y w)
 have hr : (La.less x y = true ∧ r = -1) ∨ (La.less x y = false ∧ (x.toList == y.toList) = false ∧ r = 1) ∨ (La.less x y = false ∧ (x.toList == y.toList) = true ∧ r = 0) := by
  rcases hr with h | ⟨h1, h2, h3⟩ | ⟨h1, h2, h3⟩
  · exact Or.inl h
  · refine Or.inr (Or.inl ⟨h1, beq_false_of_ne fun e => ?_, h3⟩)
    unfold La.less at h1 h2
    rw [e] at h1 h2
    rw [h1] at h2; cases h2
  · refine Or.inr (Or.inr ⟨h1, ?_, h3⟩)
    rcases La.less_tri x y with h | h | h
    · rw [h1] at h; cases h
    · subst h; exact beq_self_eq_true _
    · rw [h2] at h; cases h
 unfold La.less at hr
 go_enter Tryz.func108, Tryz.ntmps108
 go_wp2_with fail
 refine hx.out.mono ?_; rintro e w1 ⟨rfl, rfl⟩
 go_wp2_with fail
 refine hy.out.mono ?_; rintro e w1 ⟨rfl, rfl⟩
 clear hx hy
 rcases hr with ⟨h1, rfl⟩ | ⟨h1, h2, rfl⟩ | ⟨h1, h2, rfl⟩
 · go_wp2_with fail
   go_ret
   exact ⟨rfl, rfl⟩
 · go_wp2_with fail
   go_ret
   exact ⟨rfl, rfl⟩
 · go_wp2_with fail
   go_ret
   exact ⟨rfl, rfl⟩
theorem compare_any (x y : ByteArray) (w : World) : Calls Tryz.prog 108 #[.string x, .string y] w fun e w' => e = .returned (.int .i64 (cmpS x y)) ∧ w = w' := by
 refine compare_walk x y (cmpS x y) ?_ w
 unfold cmpS
 cases h1 : La.less x y <;> cases h2 : La.less y x <;> simp
theorem or_any (x y r : Int) (hr : (x = 0 ∧ r = y) ∨ (x ≠ 0 ∧ r = x)) (b : Nat) (w : World) (hb : w.heap[b]? = some (.cells #[.int .i64 x, .int .i64 y] 3 (0, 0))) : Calls Tryz.prog 107 #[.slice (some ⟨b, 0, none⟩) 2 2] w fun e w' => e = .returned (.int .i64 r) ∧ w = w' := by
 have c0 := cell_of_row _ _ 0 _ _ _ hb; have c1 := cell_of_row _ _ 1 _ _ _ hb
 simp only [List.getElem?_toArray, List.getElem?_cons_zero, List.getElem?_cons_succ] at c0 c1
 clear hb
 go_enter Tryz.func107, Tryz.ntmps107
 go_wp2_with fail
 refine wp_loop_rounds 3 ?_
 rw [rounds_succ]
 rcases hr with ⟨rfl, rfl⟩ | ⟨h, rfl⟩
 · go_wp2_with fail
   rw [rounds_succ]
   by_cases h2 : r = 0
   · subst h2
     go_wp2_with fail
     rw [rounds_succ]
     go_wp2_with fail
     go_ret
     exact ⟨rfl, rfl⟩
   · have h3 : decide (r = 0) = false := decide_eq_false h2
     go_wp2_with fail
     go_ret
     exact ⟨rfl, rfl⟩
 · have h3 : decide (r = 0) = false := decide_eq_false h
   go_wp2_with fail
   go_ret
   exact ⟨rfl, rfl⟩
set_option maxRecDepth 100000 in
set_option maxHeartbeats 4000000 in
theorem closure_any (x y : Lab) (W : World) : Calls Tryz.prog 106 #[.agg #[.string x.1, .string x.2], .agg #[.string y.1, .string y.2]] W fun e w' => e = .returned (.int .i64 (cmpL x y)) ∧ Gr W w' := by
 obtain ⟨x1, x2⟩ := x
 obtain ⟨y1, y2⟩ := y
 have HC1 := Lib.hid (fun U => compare_any x1 y1 U)
 have HC2 := Lib.hid (fun U => compare_any x2 y2 U)
 have HR : Hid ((cmpS x1 y1 = 0 ∧ cmpL (x1, x2) (y1, y2) = cmpS x2 y2) ∨ (cmpS x1 y1 ≠ 0 ∧ cmpL (x1, x2) (y1, y2) = cmpS x1 y1)) := Lib.hid (by
  unfold cmpL
  by_cases h : cmpS x1 y1 = 0
  · exact Or.inl ⟨h, if_pos h⟩
  · exact Or.inr ⟨h, if_neg h⟩)
 generalize cmpL (x1, x2) (y1, y2) = r at *
 generalize cmpS x1 y1 = c1 at *
 generalize cmpS x2 y2 = c2 at *
 go_enter Tryz.func106, Tryz.ntmps106
 go_wp2_with fail
 obtain ⟨w1, hw1⟩ : ∃ w1, w1 = W.alloc (.cells #[.string x1, .string x2] 37) := ⟨_, rfl⟩
 obtain ⟨w2, hw2⟩ : ∃ w2, w2 = w1.alloc (.cells #[.string y1, .string y2] 37) := ⟨_, rfl⟩
 have hg1 : Gr W w1 := by rw [hw1]; exact Gr.alloc _ _
 have hg2 : Gr w1 w2 := by rw [hw2]; exact Gr.alloc _ _
 have HX : Hid (w2.heap[W.heap.size]? = some (.cells #[.string x1, .string x2] 37 (0, 0))) := Lib.hid (heap_keep (by rw [hw1]; exact heap_alloc_new W _) hg2.below)
 have HY : Hid (w2.heap[w1.heap.size]? = some (.cells #[.string y1, .string y2] 37 (0, 0))) := Lib.hid (by rw [hw2]; exact heap_alloc_new w1 _)
 have HW := Lib.hid (hg1.trans hg2)
 rw [← hw1, ← hw2]
 have hs1 : w1.heap.size = W.heap.size + 1 := by rw [hw1, World.size_alloc]
 rw [hs1] at HY
 obtain ⟨yb, hyb⟩ : ∃ yb, yb = W.heap.size + 1 := ⟨_, rfl⟩
 rw [← hyb] at HY ⊢
 obtain ⟨xb, hxb⟩ : ∃ xb, xb = W.heap.size := ⟨_, rfl⟩
 rw [← hxb] at HX ⊢
 clear hw1 hw2 hg1 hg2 hxb hyb hs1
 refine plain_robD [(0, some 5), (1, some 6), (2, some 7), (3, some 8), (4, some 9), (5, some 10), (6, some 11), (7, some 12), (8, some 13), (9, some 14), (10, some 15)] [11,12] (fun U V => Gr U V) (fun _ U => Gr w2 U) [(0, .pointer (some ⟨xb, 0, none⟩)), (1, .string x1), (2, .pointer (some ⟨yb, 0, none⟩)), (3, .string y1), (4, .int .i64 c1), (5, .pointer (some ⟨xb, 1, none⟩)), (6, .string x2), (7, .pointer (some ⟨yb, 1, none⟩)), (8, .string y2), (9, .int .i64 c2)] [(10, (fun v V => ∃ bb, v = .slice (some ⟨bb, 0, none⟩) 2 2 ∧ V.heap[bb]? = some (.cells #[.int .i64 c1, .int .i64 c2] 3 (0, 0)) : Value → World → Prop))] 2 (by kernel_rfl) (by kernel_rfl) (by kernel_rfl) (Gr.drew _) ?_ ?_ ?_
 · intro p hp
   simp only [List.mem_cons, List.not_mem_nil, or_false] at hp
   subst hp
   exact fun v U V h hb => by obtain ⟨bb, e, hc⟩ := h; exact ⟨bb, e, heap_keep hc hb.below⟩
 · refine ⟨⟨_, rfl, fun ν δ U hU h00 h1 h2 hp => ?_⟩, ?_⟩
   · simp only [putsν, Act.put, List.setIfInBounds_toArray, List.set_cons_zero, List.set_cons_succ]
     dsimp only at hU
     exact Yld.value (.pointer (some ⟨xb, 0, none⟩)) U (by kernel_rfl) (by go_simp) ⟨Gr.refl _, hU, Fx.fixed rfl rfl⟩
   refine ⟨⟨_, rfl, fun ν δ U hU h00 h1 h2 hp => ?_⟩, ?_⟩
   · simp only [putsν, Act.put, List.setIfInBounds_toArray, List.set_cons_zero, List.set_cons_succ]
     have e0 := (hp 0 (by kernel_rfl) (by kernel_rfl)).val _ rfl
     simp only [e0]
     dsimp only at hU
     exact Yld.value (.string x1) U (by kernel_rfl) (by have h0 : U.cell? ⟨xb, 0, none⟩ = some (.string x1) := cell_of_row _ _ _ _ _ _ (heap_keep HX.out hU.below); go_simp) ⟨Gr.refl _, hU, Fx.fixed rfl rfl⟩
   refine ⟨⟨_, rfl, fun ν δ U hU h00 h1 h2 hp => ?_⟩, ?_⟩
   · simp only [putsν, Act.put, List.setIfInBounds_toArray, List.set_cons_zero, List.set_cons_succ]
     dsimp only at hU
     exact Yld.value (.pointer (some ⟨yb, 0, none⟩)) U (by kernel_rfl) (by go_simp) ⟨Gr.refl _, hU, Fx.fixed rfl rfl⟩
   refine ⟨⟨_, rfl, fun ν δ U hU h00 h1 h2 hp => ?_⟩, ?_⟩
   · simp only [putsν, Act.put, List.setIfInBounds_toArray, List.set_cons_zero, List.set_cons_succ]
     have e2 := (hp 2 (by kernel_rfl) (by kernel_rfl)).val _ rfl
     simp only [e2]
     dsimp only at hU
     exact Yld.value (.string y1) U (by kernel_rfl) (by have h0 : U.cell? ⟨yb, 0, none⟩ = some (.string y1) := cell_of_row _ _ _ _ _ _ (heap_keep HY.out hU.below); go_simp) ⟨Gr.refl _, hU, Fx.fixed rfl rfl⟩
   refine ⟨⟨_, rfl, fun ν δ U hU h00 h1 h2 hp => ?_⟩, ?_⟩
   · simp only [putsν, Act.put, List.setIfInBounds_toArray, List.set_cons_zero, List.set_cons_succ]
     have e1 := (hp 1 (by kernel_rfl) (by kernel_rfl)).val _ rfl
     have e3 := (hp 3 (by kernel_rfl) (by kernel_rfl)).val _ rfl
     simp only [e1, e3]
     dsimp only at hU
     refine Yld.call 108 #[.string x1, .string y1] (by kernel_rfl) (by go_simp) ?_
     have hcall := HC1.out U
     refine hcall.mono ?_
     rintro e V ⟨rfl, rfl⟩; exact ⟨_, rfl, Gr.refl _, hU, Fx.fixed rfl rfl⟩
   refine ⟨⟨_, rfl, fun ν δ U hU h00 h1 h2 hp => ?_⟩, ?_⟩
   · simp only [putsν, Act.put, List.setIfInBounds_toArray, List.set_cons_zero, List.set_cons_succ]
     dsimp only at hU
     exact Yld.value (.pointer (some ⟨xb, 1, none⟩)) U (by kernel_rfl) (by go_simp) ⟨Gr.refl _, hU, Fx.fixed rfl rfl⟩
   refine ⟨⟨_, rfl, fun ν δ U hU h00 h1 h2 hp => ?_⟩, ?_⟩
   · simp only [putsν, Act.put, List.setIfInBounds_toArray, List.set_cons_zero, List.set_cons_succ]
     have e5 := (hp 5 (by kernel_rfl) (by kernel_rfl)).val _ rfl
     simp only [e5]
     dsimp only at hU
     exact Yld.value (.string x2) U (by kernel_rfl) (by have h0 : U.cell? ⟨xb, 1, none⟩ = some (.string x2) := cell_of_row _ _ _ _ _ _ (heap_keep HX.out hU.below); go_simp) ⟨Gr.refl _, hU, Fx.fixed rfl rfl⟩
   refine ⟨⟨_, rfl, fun ν δ U hU h00 h1 h2 hp => ?_⟩, ?_⟩
   · simp only [putsν, Act.put, List.setIfInBounds_toArray, List.set_cons_zero, List.set_cons_succ]
     dsimp only at hU
     exact Yld.value (.pointer (some ⟨yb, 1, none⟩)) U (by kernel_rfl) (by go_simp) ⟨Gr.refl _, hU, Fx.fixed rfl rfl⟩
   refine ⟨⟨_, rfl, fun ν δ U hU h00 h1 h2 hp => ?_⟩, ?_⟩
   · simp only [putsν, Act.put, List.setIfInBounds_toArray, List.set_cons_zero, List.set_cons_succ]
     have e7 := (hp 7 (by kernel_rfl) (by kernel_rfl)).val _ rfl
     simp only [e7]
     dsimp only at hU
     exact Yld.value (.string y2) U (by kernel_rfl) (by have h0 : U.cell? ⟨yb, 1, none⟩ = some (.string y2) := cell_of_row _ _ _ _ _ _ (heap_keep HY.out hU.below); go_simp) ⟨Gr.refl _, hU, Fx.fixed rfl rfl⟩
   refine ⟨⟨_, rfl, fun ν δ U hU h00 h1 h2 hp => ?_⟩, ?_⟩
   · simp only [putsν, Act.put, List.setIfInBounds_toArray, List.set_cons_zero, List.set_cons_succ]
     have e6 := (hp 6 (by kernel_rfl) (by kernel_rfl)).val _ rfl
     have e8 := (hp 8 (by kernel_rfl) (by kernel_rfl)).val _ rfl
     simp only [e6, e8]
     dsimp only at hU
     refine Yld.call 108 #[.string x2, .string y2] (by kernel_rfl) (by go_simp) ?_
     have hcall := HC2.out U
     refine hcall.mono ?_
     rintro e V ⟨rfl, rfl⟩; exact ⟨_, rfl, Gr.refl _, hU, Fx.fixed rfl rfl⟩
   refine ⟨⟨_, rfl, fun ν δ U hU h00 h1 h2 hp => ?_⟩, ?_⟩
   · simp only [putsν, Act.put, List.setIfInBounds_toArray, List.set_cons_zero, List.set_cons_succ]
     have e4 := (hp 4 (by kernel_rfl) (by kernel_rfl)).val _ rfl
     have e9 := (hp 9 (by kernel_rfl) (by kernel_rfl)).val _ rfl
     simp only [e4, e9]
     dsimp only at hU
     exact Yld.value (.slice (some ⟨U.heap.size, 0, none⟩) 2 2) _ (by kernel_rfl) (by go_simp) ⟨Gr.alloc _ _, hU.trans (Gr.alloc _ _), Fx.some_ rfl rfl ⟨_, rfl, heap_alloc_new U _⟩⟩
   trivial
 intro ν δ w9 hS9 hd hf
 have e0 := (hf 0 (by kernel_rfl)).val _ rfl
 have e1 := (hf 1 (by kernel_rfl)).val _ rfl
 have e2 := (hf 2 (by kernel_rfl)).val _ rfl
 have e3 := (hf 3 (by kernel_rfl)).val _ rfl
 have e4 := (hf 4 (by kernel_rfl)).val _ rfl
 have e5 := (hf 5 (by kernel_rfl)).val _ rfl
 have e6 := (hf 6 (by kernel_rfl)).val _ rfl
 have e7 := (hf 7 (by kernel_rfl)).val _ rfl
 have e8 := (hf 8 (by kernel_rfl)).val _ rfl
 have e9 := (hf 9 (by kernel_rfl)).val _ rfl
 have c10 := (hf 10 (by kernel_rfl)).is _ rfl
 simp only [putsν, Act.put, List.setIfInBounds_toArray, List.set_cons_zero, List.set_cons_succ, e0, e1, e2, e3, e4, e5, e6, e7, e8, e9]
 clear hf e0 e1 e2 e3 e4 e5 e6 e7 e8 e9
 obtain ⟨bb, hv, hbb⟩ := c10
 simp only [hv]
 clear hv
 refine wpAnyT_one (i := 11) (by kernel_rfl) rfl (by kernel_rfl) ?_
 intro K0 hK
 unfold Oper.wp
 go_simp
 refine (or_any c1 c2 r HR.out bb w9 hbb).mono ?_
 rintro e w10 ⟨rfl, rfl⟩
 refine hK _ _ (fun _ => trivial) ?_
 clear hK K0
 refine wpAnyT_one (i := 12) (by kernel_rfl) rfl (by kernel_rfl) ?_
 intro K0 hK
 unfold Oper.wp
 go_simp
 refine hK _ _ (fun _ => trivial) ?_
 clear hK K0
 refine wpAnyT_done (by kernel_rfl) ?_ _
 refine only_mk ?_
 go_wp2_with fail
 go_ret
 exact ⟨rfl, HW.out.trans hS9⟩
end Go.Proofs.YtliobahnekohmaaGreat
