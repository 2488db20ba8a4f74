/-
  The document's entries in generation 2: the walk.
-/
import Derived.Test.YtliobahnekohmaaGreatIvD
import Derived.Test.YtliobahnekohmaaGreatIxI
namespace Go.Proofs.YtliobahnekohmaaGreat
open Go.RowKit
theorem rsmall_int (n : Int) (h : 0 ≤ n ∧ n ≤ 1125899906842624) (U : World) : Calls Tryz.prog 77 #[.int .u64 n] U fun e V => e = .returned (.string (Num.smallB (Ix.u64 n))) ∧ Below U.heap.size U V := by
 rw [Ix.u64_nat h]
 have e : n = ((n.toNat : Nat) : Int) := by omega
 have hc := rSmall_any n.toNat (Lib.hid (by omega)) U
 rw [← e] at hc
 exact hc
theorem rsmall_i64 (n : Int) (h : 0 ≤ n ∧ n ≤ 1073741824) (U : World) : Calls Tryz.prog 73 #[.int .i64 n] U fun e V => e = .returned (.string (Num.smallB (Ix.u64 n))) ∧ Below U.heap.size U V := by
 rw [Ix.u64_nat (by omega)]
 have e : n = ((n.toNat : Nat) : Int) := by omega
 have hc := rsmall12_any n.toNat (by omega) U
 rw [← e] at hc
 exact hc
theorem TSl.at_ {w U : World} {B : Option Addr} {d : Nat} {S : List ByteArray} (h : TSl w B d S) (hb : Below w.heap.size w U) {k : Nat} (hk : k < S.length) : ∃ ad, B = some ad ∧ U.cell? (ad.add k) = some (.string (S.getD k ByteArray.empty)) := by
 obtain ⟨ad, e, x0r, -⟩ := h.row.at_ hb hk
 refine ⟨ad, e, ?_⟩
 have h1 := x0r (by decide)
 rw [Nat.mul_one] at h1
 exact h1
theorem sym_mem {S : List ByteArray} {k : Nat} (h : k < S.length) : S.getD k ByteArray.empty ∈ S := by rw [List.getD_eq_getElem?_getD, List.getElem?_eq_getElem h]; exact List.getElem_mem h
theorem syms_take (sh : Bool) (S : List ByteArray) {k : Nat} (h : k < S.length) : Ix.symsB sh ByteArray.empty (S.take (k + 1)) = Ix.symsB sh ByteArray.empty (S.take k) ++ (if sh = true then Num.smallB (Ix.shared ((S.take k).getLast?.getD ByteArray.empty) (S.getD k ByteArray.empty)) ++ Fr.txt ((S.getD k ByteArray.empty).extract (Ix.shared ((S.take k).getLast?.getD ByteArray.empty) (S.getD k ByteArray.empty)) (S.getD k ByteArray.empty).size) else Fr.txt (S.getD k ByteArray.empty)) := by
 rw [List.take_add_one, List.getElem?_eq_getElem h, List.getD_eq_getElem?_getD, List.getElem?_eq_getElem h]
 exact Ix.symsB_snoc sh _ _ _
theorem rtext_txt (s : ByteArray) (hs : s.size ≤ 300) (U : World) : Calls Tryz.prog 74 #[.string s] U fun e V => e = .returned (.string (Fr.txt s)) ∧ Below U.heap.size U V := rText_any s hs U
set_option maxRecDepth 100000 in
set_option maxHeartbeats 16000000 in
theorem rmore2_any (A : Option Addr) (n c : Nat) (q : Nat → EAt) (w : World) (h : EGood w A n q) :
 Calls Tryz.prog 36 #[.slice A n c, .int .i64 2] w fun e w' => e = .returned (.string (Num.smallB (Ix.syms (entL q n)).length ++ Ix.symsB false ByteArray.empty (Ix.syms (entL q n)) ++ (Num.smallB n ++ Ix.ents (Ix.one2 (Ix.syms (entL q n))) (entL q n)))) ∧ Below w.heap.size w w' := by
 have HA := Lib.hid h
 have hn := h.few
 have HSY := Lib.hid (rSymbols_any A n c q w h.ents (by omega))
 have HG := Lib.hid (sgood h)
 obtain ⟨S, hS⟩ : ∃ S, S = Ix.syms (entL q n) := ⟨_, rfl⟩
 rw [← hS] at HSY HG ⊢
 have hs240 := HG.out.few
 have HES := Lib.hid (Ix.ents2_size S q h.labs); have HEN := Lib.hid (fun k => Ix.ents_snoc (Ix.one2 S) (q k).e (entL q k))
 clear h hS
 go_enter Tryz.func36, Tryz.ntmps36
 go_wp2_with fail
 refine HSY.out.mono ?_; rintro e w1 ⟨B, d, rfl, hts, hb1⟩
 have HTS1 := Lib.hid hts; have HB1 := Lib.hid hb1
 have HC := Lib.hid (rsmall12_any S.length (by omega) w1)
 clear hts hb1 HSY
 go_wp2_with fail
 refine HC.out.mono ?_; rintro e w2 ⟨rfl, hb2⟩
 have HB2 := Lib.hid (below_step HB1.out hb2); have HTS := Lib.hid (HTS1.out.later hb2)
 clear hb2 HC HTS1 HB1
 have hz0 := Fr.small_le S.length
 generalize hT0 : Num.smallB S.length = T0 at *
 have HT0 := Lib.hid hT0
 clear hT0
 go_wp2_with fail
 go_loopw [6, 8] (fun v i wr => ∃ k : Nat, k ≤ S.length ∧ i = .int .i64 k ∧ v = .string (T0 ++ Ix.symsB false ByteArray.empty (S.take k)) ∧ Below w2.heap.size w2 wr) (fun _ i _ => S.length - (intOf i).toNat)
 case atStart => exact ⟨0, by omega, rfl, by show Value.string T0 = .string (T0 ++ ByteArray.empty); rw [ByteArray.append_empty], Below.refl _ _⟩
 case round =>
  obtain ⟨k, hk, rfl, rfl, hbr⟩ := hrel
  have HBR := Lib.hid hbr
  clear hbr
  have i0 : (0 : Int) ≤ (k : Int) := by omega
  have hsy := Ix.syms2_size (S.take k) ByteArray.empty (fun x hx => HG.out.short x (List.mem_of_mem_take hx))
  rw [List.length_take] at hsy
  by_cases hlt : k < S.length
  · have i1 : (k : Int) < (S.length : Int) := by omega
    have dd1 : decide ((k : Int) < (S.length : Int)) = true := decide_eq_true i1
    obtain ⟨ad, rfl, x0⟩ := HTS.out.at_ HBR.out hlt
    have hzk := HG.out.short _ (sym_mem hlt)
    have HTK : Hid (Ix.symsB false ByteArray.empty (S.take (k + 1)) = Ix.symsB false ByteArray.empty (S.take k) ++ Fr.txt (S.getD k ByteArray.empty)) := Lib.hid (by rw [syms_take false S hlt]; rfl)
    have HTX := Lib.hid (rtext_txt (S.getD k ByteArray.empty) (by omega) wr)
    have hftz := Fr.txt_size (S.getD k ByteArray.empty)
    have hsl := Fr.small_le (S.getD k ByteArray.empty).size
    generalize Fr.txt (S.getD k ByteArray.empty) = tx at *
    generalize S.getD k ByteArray.empty = s at *
    obtain ⟨T1, hT1⟩ : ∃ T1, T1 = T0 ++ Ix.symsB false ByteArray.empty (S.take k) := ⟨_, rfl⟩
    have hcat : ¬ 9223372036854775807 < T1.size + tx.size := by rw [hT1, ByteArray.size_append]; omega
    rw [← hT1]
    have HT1 := Lib.hid hT1
    clear hT1 hsy hftz hsl
    go_wp2_with fail
    refine HTX.out.mono ?_; rintro e w5 ⟨rfl, hb5⟩
    have HB5 := Lib.hid (below_step HBR.out hb5)
    clear hb5 HTX x0
    go_wp2_with fail
    go_roundw
    case rel => exact ⟨k + 1, by omega, by go_num, by rw [HTK.out, HT1.out, ByteArray.append_assoc], HB5.out⟩
    case measure => simp [intOf]; omega
  · obtain rfl : k = S.length := by omega
    have dd1 : decide ((S.length : Int) < (S.length : Int)) = false := decide_eq_false (by omega)
    have htk : S.take S.length = S := List.take_length
    rw [htk] at hsy ⊢
    obtain ⟨T1, hT1⟩ : ∃ T1, T1 = T0 ++ Ix.symsB false ByteArray.empty S := ⟨_, rfl⟩
    have hT1z : T1.size ≤ 20000 := by rw [hT1, ByteArray.size_append]; omega
    rw [← hT1]
    have HT1 := Lib.hid hT1
    have HTS3 := Lib.hid (HTS.out.later HBR.out); have HB3 := Lib.hid (below_step HB2.out HBR.out)
    have HC := Lib.hid (rsmall12_any n (by omega) wr)
    have hz1 := Fr.small_le n
    have hcat : ¬ 9223372036854775807 < T1.size + (Num.smallB n).size := by omega
    clear hT1 htk hsy HTS HBR HB2
    go_wp2_with fail
    refine HC.out.mono ?_; rintro e w3 ⟨rfl, hb3⟩
    have HTS := Lib.hid (HTS3.out.later hb3); have HB3 := Lib.hid (below_step HB3.out hb3)
    clear hb3 HC HTS3
    obtain ⟨w4, hw4⟩ : ∃ w4, w4 = w3.alloc (.cells #[.slice none 0 0, .int .i64 0, .int .i64 0, .int .i64 0] 77) := ⟨_, rfl⟩
    have hb4 : Below w3.heap.size w3 w4 := by rw [hw4]; exact (Below.refl _ _).alloc (Nat.le_refl _) _
    have HTS4 := Lib.hid (HTS.out.later hb4); have HB4 := Lib.hid (below_step HB3.out hb4)
    obtain ⟨ab, hab⟩ : ∃ ab, ab = w3.heap.size := ⟨_, rfl⟩
    clear hb4
    go_upto_region 14 with fail
    rw [← hw4, ← hab]
    clear hw4 HTS HB3 hab
    obtain ⟨T2, hT2⟩ : ∃ T2, T2 = T1 ++ Num.smallB n := ⟨_, rfl⟩
    have hT2z : T2.size ≤ 20010 := by rw [hT2, ByteArray.size_append]; omega
    rw [← hT2]
    have HT2 := Lib.hid hT2
    clear hT2 hcat hz1
    go_wp2_with fail
    go_loopw [6, 11, 12, 13] (fun v i _ _ wr => ∃ k : Nat, k ≤ n ∧ i = .int .i64 k ∧ v = .string (T2 ++ Ix.ents (Ix.one2 S) (entL q k)) ∧ Below w4.heap.size w4 wr) (fun _ i _ _ _ => n - (intOf i).toNat)
    case atStart => exact ⟨0, Nat.zero_le _, rfl, by show Value.string T2 = .string (T2 ++ ByteArray.empty); rw [ByteArray.append_empty], Below.refl _ _⟩
    case round =>
     obtain ⟨k, hk, rfl, rfl, hbl⟩ := hrel
     have HBL := Lib.hid hbl
     clear hbl dd1
     have i0 : (0 : Int) ≤ (k : Int) := by omega
     have hes := HES.out k hk
     obtain ⟨T5, hT5⟩ : ∃ T5, T5 = T2 ++ Ix.ents (Ix.one2 S) (entL q k) := ⟨_, rfl⟩
     have hT5z : T5.size ≤ 24000 := by rw [hT5, ByteArray.size_append]; omega
     rw [← hT5]
     have HT5 := Lib.hid hT5
     clear hT5 hes
     by_cases hlt : k < n
     · have i1 : (k : Int) < (n : Int) := by omega
       have dd1 : decide ((k : Int) < (n : Int)) = true := decide_eq_true i1
       have hb0 := below_step HB4.out HBL.out
       obtain ⟨ad, rfl, x0, x1, x2, x3⟩ := HA.out.ents.cells hb0 hlt
       have hl6 := HA.out.labs k hlt
       have r1 := HA.out.last k hlt; have r2 := HA.out.off k hlt; have r3 := HA.out.len k hlt
       have HSN := Lib.hid (HEN.out k)
       obtain ⟨w5, hw5⟩ : ∃ w5, w5 = wr.alloc (.cells (entC (q k)) 77) := ⟨_, rfl⟩
       have hb5 : Below wr.heap.size wr w5 := by rw [hw5]; exact (Below.refl _ _).alloc (Nat.le_refl _) _
       have hy5 : w5.heap[wr.heap.size]? = some (.cells (entC (q k)) 77 (0, 0)) := by rw [hw5]; exact heap_alloc_new wr _
       have HB5 := Lib.hid (below_step HBL.out hb5)
       have HLAB := Lib.hid (((HA.out.ents.each k hlt).row.later hb0).later hb5)
       have HMEM := Lib.hid (HG.out.mem k hlt)
       have hone : Ix.one2 S (q k).e = Num.smallB (q k).e.l.length ++ Ix.labsB S (q k).e.l ++ (Num.smallB (Ix.u64 (q k).e.last) ++ Num.smallB (Ix.u64 (q k).e.off) ++ Num.smallB (Ix.u64 (q k).e.len)) := rfl
       rw [hone] at HSN
       have HF1 := Lib.hid (fun U => rsmall_int (q k).e.last r1 U); have HF2 := Lib.hid (fun U => rsmall_i64 (q k).e.off r2 U); have HF3 := Lib.hid (fun U => rsmall_i64 (q k).e.len r3 U)
       have hu1 := u64w r1
       have zf1 := Fr.small_le (Ix.u64 (q k).e.last); have zf2 := Fr.small_le (Ix.u64 (q k).e.off); have zf3 := Fr.small_le (Ix.u64 (q k).e.len)
       have HC0 := Lib.hid (fun U => rsmall12_any (q k).e.l.length (by omega) U)
       have hz0 := Fr.small_le (q k).e.l.length
       unfold entC at hw5 hy5
       have y0 := cell_of_row _ _ 0 _ _ _ hy5
       simp only [List.getElem?_toArray, List.getElem?_cons_zero] at y0
       obtain ⟨eb, heb⟩ : ∃ eb, eb = wr.heap.size := ⟨_, rfl⟩
       rw [← heb] at y0 hy5
       have HY5 := Lib.hid hy5
       clear hb5 hy5 hb0 hone
       generalize Num.smallB (Ix.u64 (q k).e.last) = g1 at *
       generalize Num.smallB (Ix.u64 (q k).e.off) = g2 at *
       generalize Num.smallB (Ix.u64 (q k).e.len) = g3 at *
       generalize (q k).e.l = l at *
       generalize (q k).A = LA at *
       generalize (q k).e.last = la at *
       generalize (q k).e.off = of at *
       generalize (q k).e.len = le at *
       generalize (q k).c = lc at *
       generalize hL0 : Num.smallB l.length = L0 at *
       have HL0 := Lib.hid hL0
       clear hL0
       have hcat : ¬ 9223372036854775807 < T5.size + L0.size := by omega
       go_upto_region 18 with fail
       rw [← hw5, ← heb]
       clear hw5 heb x0 x1 x2 x3
       go_wp2_with fail
       refine (HC0.out _).mono ?_; rintro e w6 ⟨rfl, hb6⟩
       have HBW := Lib.hid (below_step HB5.out hb6); have HY6 := Lib.hid (heap_keep HY5.out hb6)
       have HLAB := Lib.hid (HLAB.out.later hb6)
       have HTS := Lib.hid (HTS4.out.later HBW.out)
       clear hb6 HC0 y0 HY5 HB5
       go_upto_region 19 with fail
       obtain ⟨T3, hT3⟩ : ∃ T3, T3 = T5 ++ L0 := ⟨_, rfl⟩
       have hT3z : T3.size ≤ 24010 := by rw [hT3, ByteArray.size_append]; omega
       rw [← hT3]
       have HT3 := Lib.hid hT3
       clear hT3 hcat
       go_wp2_with fail
       go_loopw [6, 13] (fun v i wr => ∃ j : Nat, j ≤ l.length ∧ i = .int .i64 j ∧ v = .string (T3 ++ Ix.labsB S (l.take j)) ∧ Below w6.heap.size w6 wr ∧ wr.heap[eb]? = some (.cells #[.slice LA l.length lc, .int .i64 la, .int .i64 of, .int .i64 le] 77 (0, 0))) (fun _ i _ => l.length - (intOf i).toNat)
       case atStart => exact ⟨0, by omega, rfl, by show Value.string T3 = .string (T3 ++ ByteArray.empty); rw [ByteArray.append_empty], Below.refl _ _, HY6.out⟩
       case round =>
        obtain ⟨j, hj, rfl, rfl, hbr, hyr⟩ := hrel
        have HBR := Lib.hid hbr; have HYR := Lib.hid hyr
        clear hbr hyr
        have j0 : (0 : Int) ≤ (j : Int) := by omega
        have hfz := Ix.labsB_size S (l.take j)
        rw [List.length_take] at hfz
        have y0 := cell_of_row _ _ 0 _ _ _ HYR.out
        simp only [List.getElem?_toArray, List.getElem?_cons_zero] at y0
        by_cases hjl : j < l.length
        · have j1 : (j : Int) < (l.length : Int) := by omega
          have dd2 : decide ((j : Int) < (l.length : Int)) = true := decide_eq_true j1
          obtain ⟨lb, rfl, z0, z1⟩ := HLAB.out.at_ HBR.out hjl
          have HZ0 := Lib.hid z0; have HZ1 := Lib.hid z1
          clear z0 z1
          have HFX := Lib.hid (Ix.labsB_take S l hjl)
          obtain ⟨hm1, hm2⟩ := HMEM.out j hjl
          have HP1 := Lib.hid (fun U (hU : Below wr.heap.size wr U) => rplace_any B d S (La.at_ l j).1 (by omega) hm1 U (HTS.out.row.later (below_step HBR.out hU)))
          have HP2 := Lib.hid (fun U (hU : Below wr.heap.size wr U) => rplace_any B d S (La.at_ l j).2 (by omega) hm2 U (HTS.out.row.later (below_step HBR.out hU)))
          have hp1 := (Ix.place_lt hm1).1; have hp2 := (Ix.place_lt hm2).1
          have zf1 := Fr.small_le (Ix.place S (La.at_ l j).1); have zf2 := Fr.small_le (Ix.place S (La.at_ l j).2)
          have HF1 := Lib.hid (fun U => rsmall12_any (Ix.place S (La.at_ l j).1) (by omega) U); have HF2 := Lib.hid (fun U => rsmall12_any (Ix.place S (La.at_ l j).2) (by omega) U)
          generalize Ix.place S (La.at_ l j).1 = p1 at *
          generalize Ix.place S (La.at_ l j).2 = p2 at *
          generalize Num.smallB p1 = f1 at *
          generalize Num.smallB p2 = f2 at *
          generalize (La.at_ l j).1 = s1 at *
          generalize (La.at_ l j).2 = s2 at *
          obtain ⟨T4, hT4⟩ : ∃ T4, T4 = T3 ++ Ix.labsB S (l.take j) := ⟨_, rfl⟩
          have hT4z : T4.size ≤ 30000 := by rw [hT4, ByteArray.size_append]; omega
          rw [← hT4]
          have HT4 := Lib.hid hT4
          clear hT4 hm1 hm2
          have n1 : ¬ 9223372036854775807 < T4.size + f1.size := by omega
          have n2 : ¬ 9223372036854775807 < (T4 ++ f1).size + f2.size := by rw [ByteArray.size_append]; omega
          have n3 : ¬ 9223372036854775807 < T4.size + f1.size + f2.size := by omega
          go_upto_region 22 with fail
          clear y0
          refine plain_robJ [(0, some 90), (1, some 91), (2, some 92), (3, some 93), (4, some 94), (5, some 95), (6, some 96), (7, some 97), (8, some 98), (9, some 99), (10, some 100), (11, some 101), (12, some 102), (13, some 103), (14, some 104), (15, some 105), (16, some 106), (17, some 107), (18, some 108), (19, some 109), (20, some 110)] [21] (fun U V => Below U.heap.size U V) (fun U => Below wr.heap.size wr U) [(0, .string T4), (1, .slice B S.length d), (2, .pointer (some ⟨eb, 0, none⟩)), (3, .slice (some lb) l.length lc), (4, .int .i64 (j : Int)), (5, .pointer (some (lb.add (j * 2)))), (6, .pointer (some (lb.add (j * 2)))), (7, .string s1), (8, .int .i64 (p1 : Int)), (9, .string f1), (10, .string (T4 ++ f1)), (11, .slice B S.length d), (12, .pointer (some ⟨eb, 0, none⟩)), (13, .slice (some lb) l.length lc), (14, .int .i64 (j : Int)), (15, .pointer (some (lb.add (j * 2)))), (16, .pointer (some ⟨(lb.add (j * 2)).block, (lb.add (j * 2)).off + 1, none⟩)), (17, .string s2), (18, .int .i64 (p2 : Int)), (19, .string f2), (20, .string (T4 ++ f1 ++ f2))] [] 1 (by kernel_rfl) (by kernel_rfl) (by kernel_rfl) ((Below.refl _ _).drew) (fun U V h hb => h.trans (hb.mono h.size)) ?_ ?_ ?_
          · intro p hp; cases hp
          · refine ⟨⟨_, rfl, fun ν U hU hp => ?_⟩, ?_⟩
            · simp only [putsν, Act.put, List.setIfInBounds_toArray, List.set_cons_zero, List.set_cons_succ]
              exact Yld.value (.string T4) U (by kernel_rfl) (by go_simp) ⟨Below.refl _ _, Fx.fixed rfl rfl⟩
            refine ⟨⟨_, rfl, fun ν U hU hp => ?_⟩, ?_⟩
            · simp only [putsν, Act.put, List.setIfInBounds_toArray, List.set_cons_zero, List.set_cons_succ]
              exact Yld.value (.slice B S.length d) U (by kernel_rfl) (by go_simp) ⟨Below.refl _ _, Fx.fixed rfl rfl⟩
            refine ⟨⟨_, rfl, fun ν U hU hp => ?_⟩, ?_⟩
            · simp only [putsν, Act.put, List.setIfInBounds_toArray, List.set_cons_zero, List.set_cons_succ]
              exact Yld.value (.pointer (some ⟨eb, 0, none⟩)) U (by kernel_rfl) (by go_simp) ⟨Below.refl _ _, Fx.fixed rfl rfl⟩
            refine ⟨⟨_, rfl, fun ν U hU hp => ?_⟩, ?_⟩
            · simp only [putsν, Act.put, List.setIfInBounds_toArray, List.set_cons_zero, List.set_cons_succ]
              have e2 := (hp 2 (by kernel_rfl) (by kernel_rfl)).val _ rfl
              simp only [e2]
              exact Yld.value (.slice (some lb) l.length lc) U (by kernel_rfl) (by have h0 : U.cell? ⟨eb, 0, none⟩ = some (.slice (some lb) l.length lc) := cell_of_row _ _ _ _ _ _ (heap_keep HYR.out hU); go_simp) ⟨Below.refl _ _, Fx.fixed rfl rfl⟩
            refine ⟨⟨_, rfl, fun ν U hU hp => ?_⟩, ?_⟩
            · simp only [putsν, Act.put, List.setIfInBounds_toArray, List.set_cons_zero, List.set_cons_succ]
              exact Yld.value (.int .i64 (j : Int)) U (by kernel_rfl) (by go_simp) ⟨Below.refl _ _, Fx.fixed rfl rfl⟩
            refine ⟨⟨_, rfl, fun ν U hU hp => ?_⟩, ?_⟩
            · simp only [putsν, Act.put, List.setIfInBounds_toArray, List.set_cons_zero, List.set_cons_succ]
              have e3 := (hp 3 (by kernel_rfl) (by kernel_rfl)).val _ rfl
              have e4 := (hp 4 (by kernel_rfl) (by kernel_rfl)).val _ rfl
              simp only [e3, e4]
              exact Yld.value (.pointer (some (lb.add (j * 2)))) U (by kernel_rfl) (by go_simp) ⟨Below.refl _ _, Fx.fixed rfl rfl⟩
            refine ⟨⟨_, rfl, fun ν U hU hp => ?_⟩, ?_⟩
            · simp only [putsν, Act.put, List.setIfInBounds_toArray, List.set_cons_zero, List.set_cons_succ]
              have e5 := (hp 5 (by kernel_rfl) (by kernel_rfl)).val _ rfl
              simp only [e5]
              exact Yld.value (.pointer (some (lb.add (j * 2)))) U (by kernel_rfl) (by go_simp) ⟨Below.refl _ _, Fx.fixed rfl rfl⟩
            refine ⟨⟨_, rfl, fun ν U hU hp => ?_⟩, ?_⟩
            · simp only [putsν, Act.put, List.setIfInBounds_toArray, List.set_cons_zero, List.set_cons_succ]
              have e6 := (hp 6 (by kernel_rfl) (by kernel_rfl)).val _ rfl
              simp only [e6]
              exact Yld.value (.string s1) U (by kernel_rfl) (by have h0 := keep_at2 HZ0.out hU; go_simp) ⟨Below.refl _ _, Fx.fixed rfl rfl⟩
            refine ⟨⟨_, rfl, fun ν U hU hp => ?_⟩, ?_⟩
            · simp only [putsν, Act.put, List.setIfInBounds_toArray, List.set_cons_zero, List.set_cons_succ]
              have e1 := (hp 1 (by kernel_rfl) (by kernel_rfl)).val _ rfl
              have e7 := (hp 7 (by kernel_rfl) (by kernel_rfl)).val _ rfl
              simp only [e1, e7]
              refine Yld.call 76 #[.slice B S.length d, .string s1] (by kernel_rfl) (by go_simp) ?_
              have hcall := HP1.out U hU
              refine hcall.mono ?_
              rintro e V ⟨rfl, hb⟩; exact ⟨_, rfl, hb, Fx.fixed rfl rfl⟩
            refine ⟨⟨_, rfl, fun ν U hU hp => ?_⟩, ?_⟩
            · simp only [putsν, Act.put, List.setIfInBounds_toArray, List.set_cons_zero, List.set_cons_succ]
              have e8 := (hp 8 (by kernel_rfl) (by kernel_rfl)).val _ rfl
              simp only [e8]
              refine Yld.call 73 #[.int .i64 (p1 : Int)] (by kernel_rfl) (by go_simp) ?_
              have hcall := HF1.out U
              refine hcall.mono ?_
              rintro e V ⟨rfl, hb⟩; exact ⟨_, rfl, hb, Fx.fixed rfl rfl⟩
            refine ⟨⟨_, rfl, fun ν U hU hp => ?_⟩, ?_⟩
            · simp only [putsν, Act.put, List.setIfInBounds_toArray, List.set_cons_zero, List.set_cons_succ]
              have e0 := (hp 0 (by kernel_rfl) (by kernel_rfl)).val _ rfl
              have e9 := (hp 9 (by kernel_rfl) (by kernel_rfl)).val _ rfl
              simp only [e0, e9]
              exact Yld.value (.string (T4 ++ f1)) U (by kernel_rfl) (by go_simp) ⟨Below.refl _ _, Fx.fixed rfl rfl⟩
            refine ⟨⟨_, rfl, fun ν U hU hp => ?_⟩, ?_⟩
            · simp only [putsν, Act.put, List.setIfInBounds_toArray, List.set_cons_zero, List.set_cons_succ]
              exact Yld.value (.slice B S.length d) U (by kernel_rfl) (by go_simp) ⟨Below.refl _ _, Fx.fixed rfl rfl⟩
            refine ⟨⟨_, rfl, fun ν U hU hp => ?_⟩, ?_⟩
            · simp only [putsν, Act.put, List.setIfInBounds_toArray, List.set_cons_zero, List.set_cons_succ]
              exact Yld.value (.pointer (some ⟨eb, 0, none⟩)) U (by kernel_rfl) (by go_simp) ⟨Below.refl _ _, Fx.fixed rfl rfl⟩
            refine ⟨⟨_, rfl, fun ν U hU hp => ?_⟩, ?_⟩
            · simp only [putsν, Act.put, List.setIfInBounds_toArray, List.set_cons_zero, List.set_cons_succ]
              have e12 := (hp 12 (by kernel_rfl) (by kernel_rfl)).val _ rfl
              simp only [e12]
              exact Yld.value (.slice (some lb) l.length lc) U (by kernel_rfl) (by have h0 : U.cell? ⟨eb, 0, none⟩ = some (.slice (some lb) l.length lc) := cell_of_row _ _ _ _ _ _ (heap_keep HYR.out hU); go_simp) ⟨Below.refl _ _, Fx.fixed rfl rfl⟩
            refine ⟨⟨_, rfl, fun ν U hU hp => ?_⟩, ?_⟩
            · simp only [putsν, Act.put, List.setIfInBounds_toArray, List.set_cons_zero, List.set_cons_succ]
              exact Yld.value (.int .i64 (j : Int)) U (by kernel_rfl) (by go_simp) ⟨Below.refl _ _, Fx.fixed rfl rfl⟩
            refine ⟨⟨_, rfl, fun ν U hU hp => ?_⟩, ?_⟩
            · simp only [putsν, Act.put, List.setIfInBounds_toArray, List.set_cons_zero, List.set_cons_succ]
              have e13 := (hp 13 (by kernel_rfl) (by kernel_rfl)).val _ rfl
              have e14 := (hp 14 (by kernel_rfl) (by kernel_rfl)).val _ rfl
              simp only [e13, e14]
              exact Yld.value (.pointer (some (lb.add (j * 2)))) U (by kernel_rfl) (by go_simp) ⟨Below.refl _ _, Fx.fixed rfl rfl⟩
            refine ⟨⟨_, rfl, fun ν U hU hp => ?_⟩, ?_⟩
            · simp only [putsν, Act.put, List.setIfInBounds_toArray, List.set_cons_zero, List.set_cons_succ]
              have e15 := (hp 15 (by kernel_rfl) (by kernel_rfl)).val _ rfl
              simp only [e15]
              exact Yld.value (.pointer (some ⟨(lb.add (j * 2)).block, (lb.add (j * 2)).off + 1, none⟩)) U (by kernel_rfl) (by go_simp) ⟨Below.refl _ _, Fx.fixed rfl rfl⟩
            refine ⟨⟨_, rfl, fun ν U hU hp => ?_⟩, ?_⟩
            · simp only [putsν, Act.put, List.setIfInBounds_toArray, List.set_cons_zero, List.set_cons_succ]
              have e16 := (hp 16 (by kernel_rfl) (by kernel_rfl)).val _ rfl
              simp only [e16]
              exact Yld.value (.string s2) U (by kernel_rfl) (by have h0 := keep_at2 HZ1.out hU; go_simp) ⟨Below.refl _ _, Fx.fixed rfl rfl⟩
            refine ⟨⟨_, rfl, fun ν U hU hp => ?_⟩, ?_⟩
            · simp only [putsν, Act.put, List.setIfInBounds_toArray, List.set_cons_zero, List.set_cons_succ]
              have e11 := (hp 11 (by kernel_rfl) (by kernel_rfl)).val _ rfl
              have e17 := (hp 17 (by kernel_rfl) (by kernel_rfl)).val _ rfl
              simp only [e11, e17]
              refine Yld.call 76 #[.slice B S.length d, .string s2] (by kernel_rfl) (by go_simp) ?_
              have hcall := HP2.out U hU
              refine hcall.mono ?_
              rintro e V ⟨rfl, hb⟩; exact ⟨_, rfl, hb, Fx.fixed rfl rfl⟩
            refine ⟨⟨_, rfl, fun ν U hU hp => ?_⟩, ?_⟩
            · simp only [putsν, Act.put, List.setIfInBounds_toArray, List.set_cons_zero, List.set_cons_succ]
              have e18 := (hp 18 (by kernel_rfl) (by kernel_rfl)).val _ rfl
              simp only [e18]
              refine Yld.call 73 #[.int .i64 (p2 : Int)] (by kernel_rfl) (by go_simp) ?_
              have hcall := HF2.out U
              refine hcall.mono ?_
              rintro e V ⟨rfl, hb⟩; exact ⟨_, rfl, hb, Fx.fixed rfl rfl⟩
            refine ⟨⟨_, rfl, fun ν U hU hp => ?_⟩, ?_⟩
            · simp only [putsν, Act.put, List.setIfInBounds_toArray, List.set_cons_zero, List.set_cons_succ]
              have e10 := (hp 10 (by kernel_rfl) (by kernel_rfl)).val _ rfl
              have e19 := (hp 19 (by kernel_rfl) (by kernel_rfl)).val _ rfl
              simp only [e10, e19]
              exact Yld.value (.string (T4 ++ f1 ++ f2)) U (by kernel_rfl) (by go_simp) ⟨Below.refl _ _, Fx.fixed rfl rfl⟩
            trivial
          intro ν w9 hS9 hf
          have e0 := (hf 0 (by kernel_rfl)).val _ rfl
          have e1 := (hf 1 (by kernel_rfl)).val _ rfl
          have e2 := (hf 2 (by kernel_rfl)).val _ rfl
          have e3 := (hf 3 (by kernel_rfl)).val _ rfl
          have e4 := (hf 4 (by kernel_rfl)).val _ rfl
          have e5 := (hf 5 (by kernel_rfl)).val _ rfl
          have e6 := (hf 6 (by kernel_rfl)).val _ rfl
          have e7 := (hf 7 (by kernel_rfl)).val _ rfl
          have e8 := (hf 8 (by kernel_rfl)).val _ rfl
          have e9 := (hf 9 (by kernel_rfl)).val _ rfl
          have e10 := (hf 10 (by kernel_rfl)).val _ rfl
          have e11 := (hf 11 (by kernel_rfl)).val _ rfl
          have e12 := (hf 12 (by kernel_rfl)).val _ rfl
          have e13 := (hf 13 (by kernel_rfl)).val _ rfl
          have e14 := (hf 14 (by kernel_rfl)).val _ rfl
          have e15 := (hf 15 (by kernel_rfl)).val _ rfl
          have e16 := (hf 16 (by kernel_rfl)).val _ rfl
          have e17 := (hf 17 (by kernel_rfl)).val _ rfl
          have e18 := (hf 18 (by kernel_rfl)).val _ rfl
          have e19 := (hf 19 (by kernel_rfl)).val _ rfl
          have e20 := (hf 20 (by kernel_rfl)).val _ rfl
          simp only [putsν, Act.put, List.setIfInBounds_toArray, List.set_cons_zero, List.set_cons_succ, e0, e1, e2, e3, e4, e5, e6, e7, e8, e9, e10, e11, e12, e13, e14, e15, e16, e17, e18, e19, e20]
          clear hf e0 e1 e2 e3 e4 e5 e6 e7 e8 e9 e10 e11 e12 e13 e14 e15 e16 e17 e18 e19 e20
          refine wpAnyT_one (i := 21) (by kernel_rfl) rfl (by kernel_rfl) ?_
          intro K0 hK
          unfold Oper.wp
          go_simp
          have HY9 := Lib.hid (heap_keep HYR.out hS9)
          have HB9 := Lib.hid (below_step HBR.out hS9)
          clear hS9
          refine hK _ _ (fun _ => trivial) ?_
          clear hK K0
          refine wpAnyT_done (by kernel_rfl) ?_ _
          refine only_mk ?_
          go_wp2_with fail
          go_roundw
          case rel => exact ⟨j + 1, by omega, by go_num, by rw [HFX.out, HT4.out]; simp only [ByteArray.append_assoc], HB9.out, HY9.out⟩
          case measure => simp [intOf]; omega
        · obtain rfl : j = l.length := by omega
          have dd2 : decide ((l.length : Int) < (l.length : Int)) = false := decide_eq_false (by omega)
          have htk : l.take l.length = l := List.take_length
          rw [htk] at hfz ⊢
          obtain ⟨T4, hT4⟩ : ∃ T4, T4 = T3 ++ Ix.labsB S l := ⟨_, rfl⟩
          have hT4z : T4.size ≤ 30000 := by rw [hT4, ByteArray.size_append]; omega
          rw [← hT4]
          have HT4 := Lib.hid hT4
          clear hT4 htk
          have n1 : ¬ 9223372036854775807 < T4.size + g1.size := by omega
          have n2 : ¬ 9223372036854775807 < (T4 ++ g1).size + g2.size := by rw [ByteArray.size_append]; omega
          have n3 : ¬ 9223372036854775807 < (T4 ++ g1 ++ g2).size + g3.size := by rw [ByteArray.size_append, ByteArray.size_append]; omega
          have n4 : ¬ 9223372036854775807 < T4.size + g1.size + g2.size := by omega
          have n5 : ¬ 9223372036854775807 < T4.size + g1.size + g2.size + g3.size := by omega
          go_upto_region 24 with fail
          clear y0
          refine plain_robJ [(0, some 113), (1, some 114), (2, some 115), (3, some 116), (4, some 117), (5, some 118), (6, some 119), (7, some 120), (8, some 121), (9, some 122), (10, some 123), (11, some 124), (12, some 125), (13, some 126)] [14] (fun U V => Below U.heap.size U V) (fun U => Below wr.heap.size wr U) [(0, .string T4), (1, .pointer (some ⟨eb, 1, none⟩)), (2, .int .i64 la), (3, .int .u64 la), (4, .string g1), (5, .string (T4 ++ g1)), (6, .pointer (some ⟨eb, 2, none⟩)), (7, .int .i64 of), (8, .string g2), (9, .string (T4 ++ g1 ++ g2)), (10, .pointer (some ⟨eb, 3, none⟩)), (11, .int .i64 le), (12, .string g3), (13, .string (T4 ++ g1 ++ g2 ++ g3))] [] 1 (by kernel_rfl) (by kernel_rfl) (by kernel_rfl) ((Below.refl _ _).drew) (fun U V h hb => h.trans (hb.mono h.size)) ?_ ?_ ?_
          · intro p hp; cases hp
          · refine ⟨⟨_, rfl, fun ν U hU hp => ?_⟩, ?_⟩
            · simp only [putsν, Act.put, List.setIfInBounds_toArray, List.set_cons_zero, List.set_cons_succ]
              exact Yld.value (.string T4) U (by kernel_rfl) (by go_simp) ⟨Below.refl _ _, Fx.fixed rfl rfl⟩
            refine ⟨⟨_, rfl, fun ν U hU hp => ?_⟩, ?_⟩
            · simp only [putsν, Act.put, List.setIfInBounds_toArray, List.set_cons_zero, List.set_cons_succ]
              exact Yld.value (.pointer (some ⟨eb, 1, none⟩)) U (by kernel_rfl) (by go_simp) ⟨Below.refl _ _, Fx.fixed rfl rfl⟩
            refine ⟨⟨_, rfl, fun ν U hU hp => ?_⟩, ?_⟩
            · simp only [putsν, Act.put, List.setIfInBounds_toArray, List.set_cons_zero, List.set_cons_succ]
              have e1 := (hp 1 (by kernel_rfl) (by kernel_rfl)).val _ rfl
              simp only [e1]
              exact Yld.value (.int .i64 la) U (by kernel_rfl) (by have h0 : U.cell? ⟨eb, 1, none⟩ = some (.int .i64 la) := cell_of_row _ _ _ _ _ _ (heap_keep HYR.out hU); go_simp) ⟨Below.refl _ _, Fx.fixed rfl rfl⟩
            refine ⟨⟨_, rfl, fun ν U hU hp => ?_⟩, ?_⟩
            · simp only [putsν, Act.put, List.setIfInBounds_toArray, List.set_cons_zero, List.set_cons_succ]
              have e2 := (hp 2 (by kernel_rfl) (by kernel_rfl)).val _ rfl
              simp only [e2]
              exact Yld.value (.int .u64 la) U (by kernel_rfl) (by go_simp) ⟨Below.refl _ _, Fx.fixed rfl rfl⟩
            refine ⟨⟨_, rfl, fun ν U hU hp => ?_⟩, ?_⟩
            · simp only [putsν, Act.put, List.setIfInBounds_toArray, List.set_cons_zero, List.set_cons_succ]
              have e3 := (hp 3 (by kernel_rfl) (by kernel_rfl)).val _ rfl
              simp only [e3]
              refine Yld.call 77 #[.int .u64 la] (by kernel_rfl) (by go_simp) ?_
              have hcall := HF1.out U
              refine hcall.mono ?_
              rintro e V ⟨rfl, hb⟩; exact ⟨_, rfl, hb, Fx.fixed rfl rfl⟩
            refine ⟨⟨_, rfl, fun ν U hU hp => ?_⟩, ?_⟩
            · simp only [putsν, Act.put, List.setIfInBounds_toArray, List.set_cons_zero, List.set_cons_succ]
              have e0 := (hp 0 (by kernel_rfl) (by kernel_rfl)).val _ rfl
              have e4 := (hp 4 (by kernel_rfl) (by kernel_rfl)).val _ rfl
              simp only [e0, e4]
              exact Yld.value (.string (T4 ++ g1)) U (by kernel_rfl) (by go_simp) ⟨Below.refl _ _, Fx.fixed rfl rfl⟩
            refine ⟨⟨_, rfl, fun ν U hU hp => ?_⟩, ?_⟩
            · simp only [putsν, Act.put, List.setIfInBounds_toArray, List.set_cons_zero, List.set_cons_succ]
              exact Yld.value (.pointer (some ⟨eb, 2, none⟩)) U (by kernel_rfl) (by go_simp) ⟨Below.refl _ _, Fx.fixed rfl rfl⟩
            refine ⟨⟨_, rfl, fun ν U hU hp => ?_⟩, ?_⟩
            · simp only [putsν, Act.put, List.setIfInBounds_toArray, List.set_cons_zero, List.set_cons_succ]
              have e6 := (hp 6 (by kernel_rfl) (by kernel_rfl)).val _ rfl
              simp only [e6]
              exact Yld.value (.int .i64 of) U (by kernel_rfl) (by have h0 : U.cell? ⟨eb, 2, none⟩ = some (.int .i64 of) := cell_of_row _ _ _ _ _ _ (heap_keep HYR.out hU); go_simp) ⟨Below.refl _ _, Fx.fixed rfl rfl⟩
            refine ⟨⟨_, rfl, fun ν U hU hp => ?_⟩, ?_⟩
            · simp only [putsν, Act.put, List.setIfInBounds_toArray, List.set_cons_zero, List.set_cons_succ]
              have e7 := (hp 7 (by kernel_rfl) (by kernel_rfl)).val _ rfl
              simp only [e7]
              refine Yld.call 73 #[.int .i64 of] (by kernel_rfl) (by go_simp) ?_
              have hcall := HF2.out U
              refine hcall.mono ?_
              rintro e V ⟨rfl, hb⟩; exact ⟨_, rfl, hb, Fx.fixed rfl rfl⟩
            refine ⟨⟨_, rfl, fun ν U hU hp => ?_⟩, ?_⟩
            · simp only [putsν, Act.put, List.setIfInBounds_toArray, List.set_cons_zero, List.set_cons_succ]
              have e5 := (hp 5 (by kernel_rfl) (by kernel_rfl)).val _ rfl
              have e8 := (hp 8 (by kernel_rfl) (by kernel_rfl)).val _ rfl
              simp only [e5, e8]
              exact Yld.value (.string (T4 ++ g1 ++ g2)) U (by kernel_rfl) (by go_simp) ⟨Below.refl _ _, Fx.fixed rfl rfl⟩
            refine ⟨⟨_, rfl, fun ν U hU hp => ?_⟩, ?_⟩
            · simp only [putsν, Act.put, List.setIfInBounds_toArray, List.set_cons_zero, List.set_cons_succ]
              exact Yld.value (.pointer (some ⟨eb, 3, none⟩)) U (by kernel_rfl) (by go_simp) ⟨Below.refl _ _, Fx.fixed rfl rfl⟩
            refine ⟨⟨_, rfl, fun ν U hU hp => ?_⟩, ?_⟩
            · simp only [putsν, Act.put, List.setIfInBounds_toArray, List.set_cons_zero, List.set_cons_succ]
              have e10 := (hp 10 (by kernel_rfl) (by kernel_rfl)).val _ rfl
              simp only [e10]
              exact Yld.value (.int .i64 le) U (by kernel_rfl) (by have h0 : U.cell? ⟨eb, 3, none⟩ = some (.int .i64 le) := cell_of_row _ _ _ _ _ _ (heap_keep HYR.out hU); go_simp) ⟨Below.refl _ _, Fx.fixed rfl rfl⟩
            refine ⟨⟨_, rfl, fun ν U hU hp => ?_⟩, ?_⟩
            · simp only [putsν, Act.put, List.setIfInBounds_toArray, List.set_cons_zero, List.set_cons_succ]
              have e11 := (hp 11 (by kernel_rfl) (by kernel_rfl)).val _ rfl
              simp only [e11]
              refine Yld.call 73 #[.int .i64 le] (by kernel_rfl) (by go_simp) ?_
              have hcall := HF3.out U
              refine hcall.mono ?_
              rintro e V ⟨rfl, hb⟩; exact ⟨_, rfl, hb, Fx.fixed rfl rfl⟩
            refine ⟨⟨_, rfl, fun ν U hU hp => ?_⟩, ?_⟩
            · simp only [putsν, Act.put, List.setIfInBounds_toArray, List.set_cons_zero, List.set_cons_succ]
              have e9 := (hp 9 (by kernel_rfl) (by kernel_rfl)).val _ rfl
              have e12 := (hp 12 (by kernel_rfl) (by kernel_rfl)).val _ rfl
              simp only [e9, e12]
              exact Yld.value (.string (T4 ++ g1 ++ g2 ++ g3)) U (by kernel_rfl) (by go_simp) ⟨Below.refl _ _, Fx.fixed rfl rfl⟩
            trivial
          intro ν w9 hS9 hf
          have e0 := (hf 0 (by kernel_rfl)).val _ rfl
          have e1 := (hf 1 (by kernel_rfl)).val _ rfl
          have e2 := (hf 2 (by kernel_rfl)).val _ rfl
          have e3 := (hf 3 (by kernel_rfl)).val _ rfl
          have e4 := (hf 4 (by kernel_rfl)).val _ rfl
          have e5 := (hf 5 (by kernel_rfl)).val _ rfl
          have e6 := (hf 6 (by kernel_rfl)).val _ rfl
          have e7 := (hf 7 (by kernel_rfl)).val _ rfl
          have e8 := (hf 8 (by kernel_rfl)).val _ rfl
          have e9 := (hf 9 (by kernel_rfl)).val _ rfl
          have e10 := (hf 10 (by kernel_rfl)).val _ rfl
          have e11 := (hf 11 (by kernel_rfl)).val _ rfl
          have e12 := (hf 12 (by kernel_rfl)).val _ rfl
          have e13 := (hf 13 (by kernel_rfl)).val _ rfl
          simp only [putsν, Act.put, List.setIfInBounds_toArray, List.set_cons_zero, List.set_cons_succ, e0, e1, e2, e3, e4, e5, e6, e7, e8, e9, e10, e11, e12, e13]
          clear hf e0 e1 e2 e3 e4 e5 e6 e7 e8 e9 e10 e11 e12 e13
          refine wpAnyT_one (i := 14) (by kernel_rfl) rfl (by kernel_rfl) ?_
          intro K0 hK
          unfold Oper.wp
          go_simp
          have HB9 := Lib.hid (below_step HBW.out (below_step HBR.out hS9))
          clear hS9
          refine hK _ _ (fun _ => trivial) ?_
          clear hK K0
          refine wpAnyT_done (by kernel_rfl) ?_ _
          refine only_mk ?_
          go_wp2_with fail
          go_roundw
          case rel => exact ⟨k + 1, by omega, by go_num, by rw [entL_succ, HSN.out, HT4.out, HT3.out, HT5.out]; simp only [ByteArray.append_assoc], HB9.out⟩
          case measure => simp [intOf]; omega
     · obtain rfl : k = n := by omega
       have dd1 : decide ((k : Int) < (k : Int)) = false := decide_eq_false (Int.lt_irrefl _)
       go_wp2_with fail
       go_ret
       exact ⟨by rw [HT5.out, HT2.out, HT1.out, HT0.out]; simp only [ByteArray.append_assoc]; rfl, below_step HB4.out HBL.out⟩
end Go.Proofs.YtliobahnekohmaaGreat
