import Derived.Test.YtliobahnekohmaaGreatIwA
import Derived.Test.YtliobahnekohmaaGreatLaR
import Derived.BigQuiet
/-
  Whether entries may be; whether they are alike: the walks.
-/
namespace Go.Proofs.YtliobahnekohmaaGreat
open Go.RowKit
theorem Ix.valid_gen {L : List Ix.Ent} {g : Int} (h : Ix.isG g = false) : Ix.valid L g = 1 := by
 unfold Ix.valid; rw [if_pos (Or.inl h)]
theorem Ix.valid_many {L : List Ix.Ent} {g : Int} (h : 20 < L.length) : Ix.valid L g = 1 := by
 unfold Ix.valid; rw [if_pos (Or.inr h)]
theorem Ix.valid_at {L : List Ix.Ent} {g : Int} {i : Nat} (hi : i < L.length) (h : Ix.okE L i (Ix.at_ L i) = false) : Ix.valid L g = 1 := by
 have : Ix.okAll L = false := by
  unfold Ix.okAll
  rw [List.all_eq_false]
  exact ⟨i, List.mem_range.2 hi, by rw [h]; exact Bool.false_ne_true⟩
 unfold Ix.valid
 by_cases h0 : Ix.isG g = false ∨ 20 < L.length
 · rw [if_pos h0]
 · rw [if_neg h0, if_pos this]
theorem Ix.okAll_all {L : List Ix.Ent} (h : ∀ i, i < L.length → Ix.okE L i (Ix.at_ L i) = true) : Ix.okAll L = true := by
 unfold Ix.okAll
 rw [List.all_eq_true]
 exact fun i hi => h i (List.mem_range.1 hi)
theorem Ix.valid_long {L : List Ix.Ent} {g : Int} (hg : Ix.isG g = true) (hl : L.length ≤ 20) (h : ∀ i, i < L.length → Ix.okE L i (Ix.at_ L i) = true) {i : Nat} (hi : i < L.length) (h2 : La.limit g < Ix.long (Ix.at_ L i).l) : Ix.valid L g = 3 := by
 have hf : Ix.fits g L = false := by
  unfold Ix.fits
  rw [List.all_eq_false]
  refine ⟨Ix.at_ L i, ?_, ?_⟩
  · unfold Ix.at_; simp [List.getD, hi]
  · simp; omega
 unfold Ix.valid
 rw [if_neg (by rw [hg]; simp; omega), if_neg (by rw [Ix.okAll_all h]; simp), if_pos hf]
theorem Ix.valid_ok {L : List Ix.Ent} {g : Int} (hg : Ix.isG g = true) (hl : L.length ≤ 20) (h : ∀ i, i < L.length → Ix.okE L i (Ix.at_ L i) = true) (h2 : ∀ i, i < L.length → Ix.long (Ix.at_ L i).l ≤ La.limit g) : Ix.valid L g = 0 := by
 have hf : Ix.fits g L = true := by
  unfold Ix.fits
  rw [List.all_eq_true]
  intro e he
  obtain ⟨i, hi, rfl⟩ := Ix.at_mem he
  exact decide_eq_true (h2 i hi)
 unfold Ix.valid
 rw [if_neg (by rw [hg]; simp; omega), if_neg (by rw [Ix.okAll_all h]; simp), if_neg (by rw [hf]; simp)]
theorem okE_parts (q : Nat → EAt) {n i : Nat} (hi : i < n) : Ix.okE (entL q n) i (Ix.at_ (entL q n) i) = (La.rightL (q i).e.l && (decide (i = 0) || La.less (Ix.key (q (i - 1)).e.l) (Ix.key (q i).e.l)) && (decide (0 ≤ (q i).e.last ∧ (q i).e.last ≤ 1125899906842624) && (Ix.isPlace (q i).e.off && Ix.isPlace (q i).e.len))) := by
 rw [entL_at q hi]
 unfold Ix.okE
 rw [show (entL q n).getD (i - 1) ⟨[], 0, 0, 0⟩ = Ix.at_ (entL q n) (i - 1) from rfl, entL_at q (show i - 1 < n by omega)]
theorem EIn.check {w : World} {x : EAt} (h : EIn w x) : ∀ W, Below w.heap.size w W → Calls Tryz.prog 45 #[.slice x.A x.e.l.length x.c] W fun e w' => e = .returned (.int .i64 ((La.err (La.rightL x.e.l) : Nat) : Int)) ∧ Below W.heap.size W w' :=
 fun W hW => Check_any x.A x.e.l.length x.c (by have := h.len; unfold maxLen; omega) (La.at_ x.e.l) (fun i hi => by have := h.small i hi; unfold maxLen; omega) W (h.later hW).row
theorem EIn.longest {w : World} {x : EAt} (h : EIn w x) : ∀ W, Below w.heap.size w W → Calls Tryz.prog 48 #[.slice x.A x.e.l.length x.c] W fun e w' => e = .returned (.int .i64 ((Ix.long x.e.l : Nat) : Int)) ∧ Below W.heap.size W w' :=
 fun W hW => Longest_any x.A x.e.l.length x.c (by have := h.len; unfold maxLen; omega) (La.at_ x.e.l) (fun i hi => by have := h.small i hi; unfold maxLen; omega) W (h.later hW).row
theorem right_short {l : List Lab} (h : La.rightL l = true) : ∀ i, i < l.length → (La.at_ l i).1.size ≤ 300 ∧ (La.at_ l i).2.size ≤ 300 := (La.right_sizes l h).2
theorem EIn.less {w : World} {x y : EAt} (h : EIn w x) (h2 : EIn w y) (r1 : La.rightL x.e.l = true) (r2 : La.rightL y.e.l = true) : ∀ W, Below w.heap.size w W → Calls Tryz.prog 46 #[.slice x.A x.e.l.length x.c, .slice y.A y.e.l.length y.c] W fun e w' => e = .returned (.bool (La.less (Ix.key x.e.l) (Ix.key y.e.l))) ∧ Below W.heap.size W w' :=
 fun W hW => Less_any x.A y.A x.e.l.length y.e.l.length x.c y.c (by have := h.len; omega) (by have := h2.len; omega) (La.at_ x.e.l) (La.at_ y.e.l) (right_short r1) (right_short r2) W (h.later hW).row (h2.later hW).row
set_option maxRecDepth 100000 in
set_option maxHeartbeats 8000000 in
theorem Valid_any (A : Option Addr) (n c : Nat) (q : Nat → EAt) (g : Int) (w : World) (h : EntsIn w A n q) :
 Calls Tryz.prog 16 #[.slice A n c, .int .i64 g] w fun e w' => e = .returned (.int .i64 (Ix.valid (entL q n) g)) ∧ Below w.heap.size w w' := by
 have hlen := entL_length q n
 have HG := Lib.hid (fun U => isGen_any g U)
 have HA := Lib.hid h
 have hn := h.len
 obtain ⟨V, hV⟩ : ∃ V, V = Ix.valid (entL q n) g := ⟨_, rfl⟩
 rw [← hV]
 have V1 := Lib.hid (fun (hg : Ix.isG g = false) => hV.trans (Ix.valid_gen (L := entL q n) hg)); have V2 := Lib.hid (fun (hm : 20 < n) => hV.trans (Ix.valid_many (L := entL q n) (g := g) (by rw [hlen]; exact hm)))
 have V3 := Lib.hid (fun (i : Nat) (hi : i < n) (h : Ix.okE (entL q n) i (Ix.at_ (entL q n) i) = false) => hV.trans (Ix.valid_at (g := g) (by rw [hlen]; exact hi) h))
 have V4 := Lib.hid (fun (hg : Ix.isG g = true) (hm : n ≤ 20) (hall : ∀ i, i < n → Ix.okE (entL q n) i (Ix.at_ (entL q n) i) = true) (i : Nat) (hi : i < n) (h2 : La.limit g < Ix.long (q i).e.l) => hV.trans (Ix.valid_long hg (by rw [hlen]; exact hm) (fun j hj => hall j (by rw [hlen] at hj; exact hj)) (i := i) (by rw [hlen]; exact hi) (by rw [entL_at q hi]; exact h2)))
 have V5 := Lib.hid (fun (hg : Ix.isG g = true) (hm : n ≤ 20) (hall : ∀ i, i < n → Ix.okE (entL q n) i (Ix.at_ (entL q n) i) = true) (h2 : ∀ i, i < n → Ix.long (q i).e.l ≤ La.limit g) => hV.trans (Ix.valid_ok hg (by rw [hlen]; exact hm) (fun j hj => hall j (by rw [hlen] at hj; exact hj)) (fun j hj => by rw [hlen] at hj; rw [entL_at q hj]; exact h2 j hj)))
 clear hV h hlen
 go_enter Tryz.func16, Tryz.ntmps16
 go_wp2_with fail
 refine (HG.out _).mono ?_; rintro e w1 ⟨rfl, rfl⟩
 obtain ⟨b, hb⟩ : ∃ b, b = Ix.isG g := ⟨_, rfl⟩
 rw [← hb] at V1 V4 V5 ⊢
 clear hb HG
 cases b with
 | false =>
  go_wp2_with fail
  go_ret
  exact ⟨by rw [V1.out (by trivial)]; rfl, Below.refl _ _⟩
 | true =>
  by_cases h20 : n ≤ 20
  · have d1 : decide ((20 : Int) < (n : Int)) = false := decide_eq_false (by omega)
    go_wp2_with fail
    go_loopw [19] (fun i wr => ∃ k : Nat, k ≤ n ∧ i = .int .i64 k ∧ (∀ j, j < k → Ix.okE (entL q n) j (Ix.at_ (entL q n) j) = true) ∧ Below w1.heap.size w1 wr) (fun i _ => n - (intOf i).toNat)
    case atStart => exact ⟨0, by omega, rfl, (fun j hj => absurd hj (by omega)), Below.refl _ _⟩
    case round =>
     obtain ⟨k, hk, rfl, hall, hb⟩ := hrel
     have HBL := Lib.hid hb; have HALL := Lib.hid hall
     clear hb hall
     have i0 : (0 : Int) ≤ (k : Int) := by omega
     by_cases hlt : k < n
     · have i1 : (k : Int) < (n : Int) := by omega
       have dd1 : decide ((k : Int) < (n : Int)) = true := decide_eq_true i1
       have hq1 := okE_parts q hlt
       have HNO := Lib.hid (V3.out k hlt)
       have HYES := Lib.hid (fun (h : Ix.okE (entL q n) k (Ix.at_ (entL q n) k) = true) j (hj : j < k + 1) => (by
        rcases Nat.lt_or_ge j k with h3 | h3
        · exact HALL.out j h3
        · rw [show j = k from by omega]; exact h : Ix.okE (entL q n) j (Ix.at_ (entL q n) j) = true))
       rw [hq1] at HNO HYES
       clear hq1
       obtain ⟨ad, rfl, x0, x1, x2, x3⟩ := HA.out.cells HBL.out hlt
       have hE := (HA.out.each k hlt).later HBL.out
       have HP : Hid (0 < k → La.rightL (q k).e.l = true → ∀ U, Below wr.heap.size wr U → U.cell? (ad.add ((k - 1) * 4)) = some (.slice (q (k - 1)).A (q (k - 1)).e.l.length (q (k - 1)).c) ∧ Calls Tryz.prog 46 #[.slice (q (k - 1)).A (q (k - 1)).e.l.length (q (k - 1)).c, .slice (q k).A (q k).e.l.length (q k).c] U fun e w' => e = .returned (.bool (La.less (Ix.key (q (k - 1)).e.l) (Ix.key (q k).e.l))) ∧ Below U.heap.size U w') := Lib.hid (fun h0 hr U hU => by
        have hk1 := HALL.out (k - 1) (by omega)
        rw [okE_parts q (show k - 1 < n by omega), Bool.and_eq_true, Bool.and_eq_true] at hk1
        obtain ⟨ad2, e2, y0, -⟩ := HA.out.cells HBL.out (show k - 1 < n by omega)
        cases e2
        exact ⟨cell_keep y0 hU, ((HA.out.each (k - 1) (by omega)).later HBL.out).less hE hk1.1.1 hr U hU⟩)
       have HCK := Lib.hid hE.check
       obtain ⟨w5, hw5⟩ : ∃ w5, w5 = wr.alloc (.cells (entC (q k)) 59) := ⟨_, rfl⟩
       have hb5 : Below wr.heap.size wr w5 := by rw [hw5]; exact (Below.refl _ _).alloc (Nat.le_refl _) _
       have hy5 : w5.heap[wr.heap.size]? = some (.cells (entC (q k)) 59 (0, 0)) := by rw [hw5]; exact heap_alloc_new wr _
       unfold entC at hw5 hy5
       have HB5 := Lib.hid hb5; have HY5 := Lib.hid hy5
       obtain ⟨eb, heb⟩ : ∃ eb, eb = wr.heap.size := ⟨_, rfl⟩
       rw [← heb] at HY5
       clear hb5 hy5 hE
       go_upto_region 6 with fail
       rw [← hw5, ← heb]
       clear hw5 heb x0 x1 x2 x3
       refine plain_T (fun U => Below w5.heap.size w5 U) [] (by kernel_rfl) ?_
       have HD : Hid (Below w5.heap.size w5 w5.drew) := Lib.hid (Below.refl _ _).drew
       generalize w5.drew = wd at HD ⊢
       refine wpAnyT_pick (S := (fun U => Below w5.heap.size w5 U)) (by kernel_rfl) Only.panic Only.keepsIn (w := wd) HD.out [0, 1] 18 _ _ (by kernel_rfl) ?_
       refine PickT.value (d := some 24) (.pointer (some ⟨eb, 0, none⟩)) rfl rfl (by kernel_rfl) (fun U hU => (by go_simp)) ?_
       refine PickT.value (d := some 25) (.slice (q k).A (q k).e.l.length (q k).c) rfl rfl (by kernel_rfl) (fun U hU => (by have h0 : U.cell? ⟨eb, 0, none⟩ = some (.slice (q k).A (q k).e.l.length (q k).c) := cell_of_row _ _ _ _ _ _ (heap_keep HY5.out hU); go_simp)) ?_
       simp only [PickT, Act.put, List.setIfInBounds_toArray, List.set_cons_zero, List.set_cons_succ]
       refine wpAnyT_one (i := 2) (by kernel_rfl) rfl (by kernel_rfl) ?_
       intro K hK
       unfold Oper.wp
       go_simp
       refine (HCK.out _ (below_step HB5.out HD.out)).mono ?_; rintro e w9 ⟨rfl, hb9⟩
       have HB9 := Lib.hid (below_step HD.out hb9)
       clear hb9 HCK HD
       refine hK _ _ (fun _ => HB9.out) ?_
       clear hK K
       generalize La.rightL (q k).e.l = r1 at *
       cases r1 with
       | false =>
        have le1 : La.err false = 2 := rfl
        refine wpAnyT_pick (S := (fun U => Below w5.heap.size w5 U)) (by kernel_rfl) Only.panic Only.keepsIn (w := w9) HB9.out [3, 4, 5, 6, 7, 8, 9, 10, 11, 12, 13, 14, 15, 16, 17, 18, 19] 0 _ _ (by kernel_rfl) ?_
        refine PickT.value (d := some 27) (.bool true) rfl rfl (by kernel_rfl) (fun U hU => (by go_simp)) ?_
        refine PickT.value (d := some 28) (.bool true) rfl rfl (by kernel_rfl) (fun U hU => (by go_simp)) ?_
        refine PickT.skip (d := some 29) rfl rfl (by kernel_rfl) ?_
        refine PickT.skip (d := some 30) rfl rfl (by kernel_rfl) ?_
        refine PickT.skip (d := some 31) rfl rfl (by kernel_rfl) ?_
        refine PickT.skip (d := some 32) rfl rfl (by kernel_rfl) ?_
        refine PickT.skip (d := some 33) rfl rfl (by kernel_rfl) ?_
        refine PickT.skip (d := some 34) rfl rfl (by kernel_rfl) ?_
        refine PickT.skip (d := some 35) rfl rfl (by kernel_rfl) ?_
        refine PickT.skip (d := some 36) rfl rfl (by kernel_rfl) ?_
        refine PickT.skip (d := some 37) rfl rfl (by kernel_rfl) ?_
        refine PickT.skip (d := some 38) rfl rfl (by kernel_rfl) ?_
        refine PickT.skip (d := some 39) rfl rfl (by kernel_rfl) ?_
        refine PickT.skip (d := some 40) rfl rfl (by kernel_rfl) ?_
        refine PickT.skip (d := some 41) rfl rfl (by kernel_rfl) ?_
        refine PickT.skip (d := some 42) rfl rfl (by kernel_rfl) ?_
        refine PickT.value (d := some 43) (.bool true) rfl rfl (by kernel_rfl) (fun U hU => (by go_simp)) ?_
        simp only [PickT, Act.put, List.setIfInBounds_toArray, List.set_cons_zero, List.set_cons_succ]
        refine wpAnyT_done (by kernel_rfl) ?_ _
        refine only_mk ?_
        have HBN := Lib.hid (below_step (below_step HBL.out HB5.out) HB9.out)
        have hv := HNO.out (by simp)
        go_wp2_with fail
        go_ret
        exact ⟨by first | (rw [hv]; rfl) | rfl, HBN.out⟩
       | true =>
        have le1 : La.err true = 0 := rfl
        by_cases hk0 : k = 0
        · have e0 : decide ((0 : Int) < (k : Int)) = false := decide_eq_false (by omega)
          have e0n : decide (0 < k) = false := decide_eq_false (by omega)
          rw [decide_eq_true hk0] at HNO HYES
          rw [Bool.true_or] at HNO HYES
          refine wpAnyT_pick (S := (fun U => Below w5.heap.size w5 U)) (by kernel_rfl) Only.panic Only.keepsIn (w := w9) HB9.out [3, 4, 5, 6, 7, 8, 9, 10, 11, 12, 13, 14, 15, 16, 17, 18, 19] 0 _ _ (by kernel_rfl) ?_
          refine PickT.value (d := some 27) (.bool false) rfl rfl (by kernel_rfl) (fun U hU => (by go_simp)) ?_
          refine PickT.value (d := some 28) (.bool false) rfl rfl (by kernel_rfl) (fun U hU => (by go_simp)) ?_
          refine PickT.value (d := some 29) (.int .i64 (k : Int)) rfl rfl (by kernel_rfl) (fun U hU => (by go_simp)) ?_
          refine PickT.value (d := some 30) (.bool false) rfl rfl (by kernel_rfl) (fun U hU => (by go_simp)) ?_
          refine PickT.value (d := some 31) (.bool false) rfl rfl (by kernel_rfl) (fun U hU => (by go_simp)) ?_
          refine PickT.skip (d := some 32) rfl rfl (by kernel_rfl) ?_
          refine PickT.skip (d := some 33) rfl rfl (by kernel_rfl) ?_
          refine PickT.skip (d := some 34) rfl rfl (by kernel_rfl) ?_
          refine PickT.skip (d := some 35) rfl rfl (by kernel_rfl) ?_
          refine PickT.skip (d := some 36) rfl rfl (by kernel_rfl) ?_
          refine PickT.skip (d := some 37) rfl rfl (by kernel_rfl) ?_
          refine PickT.skip (d := some 38) rfl rfl (by kernel_rfl) ?_
          refine PickT.skip (d := some 39) rfl rfl (by kernel_rfl) ?_
          refine PickT.skip (d := some 40) rfl rfl (by kernel_rfl) ?_
          refine PickT.skip (d := some 41) rfl rfl (by kernel_rfl) ?_
          refine PickT.value (d := some 42) (.bool false) rfl rfl (by kernel_rfl) (fun U hU => (by go_simp)) ?_
          refine PickT.value (d := some 43) (.bool false) rfl rfl (by kernel_rfl) (fun U hU => (by go_simp)) ?_
          simp only [PickT, Act.put, List.setIfInBounds_toArray, List.set_cons_zero, List.set_cons_succ]
          refine wpAnyT_done (by kernel_rfl) ?_ _
          refine only_mk ?_
          clear hk0 e0 e0n HP
          have hyz := heap_keep HY5.out HB9.out
          have y1 := cell_of_row _ _ 1 _ _ _ hyz; have y2 := cell_of_row _ _ 2 _ _ _ hyz; have y3 := cell_of_row _ _ 3 _ _ _ hyz
          simp only [List.getElem?_toArray, List.getElem?_cons_zero, List.getElem?_cons_succ] at y1 y2 y3
          have HBN := Lib.hid (below_step (below_step HBL.out HB5.out) HB9.out)
          clear hyz
          have HP2 := Lib.hid (fun U => isPlace_any (q k).e.off U); have HP3 := Lib.hid (fun U => isPlace_any (q k).e.len U)
          generalize (q k).e.last = la at *
          generalize (q k).e.off = of at *
          generalize (q k).e.len = le at *
          by_cases c1 : la < 0
          · have z1 : decide (0 ≤ la ∧ la ≤ 1125899906842624) = false := decide_eq_false (by omega)
            rw [z1] at HNO
            have e1 : decide (la < 0) = true := decide_eq_true c1
            clear c1 z1
            have hv := HNO.out (by simp)
            go_wp2_with fail
            go_ret
            exact ⟨by first | (rw [hv]; rfl) | rfl, HBN.out⟩
          · have e1 : decide (la < 0) = false := decide_eq_false c1
            by_cases c2 : 1125899906842624 < la
            · have z1 : decide (0 ≤ la ∧ la ≤ 1125899906842624) = false := decide_eq_false (by omega)
              rw [z1] at HNO
              have e2 : decide (1125899906842624 < la) = true := decide_eq_true c2
              clear c1 c2 z1
              have hv := HNO.out (by simp)
              go_wp2_with fail
              go_ret
              exact ⟨by first | (rw [hv]; rfl) | rfl, HBN.out⟩
            · have z1 : decide (0 ≤ la ∧ la ≤ 1125899906842624) = true := decide_eq_true (by omega)
              rw [z1] at HNO HYES
              have e2 : decide (1125899906842624 < la) = false := decide_eq_false c2
              clear c1 c2 z1
              go_wp2_with fail
              refine (HP2.out _).mono ?_; rintro e w6 ⟨rfl, hw6⟩
              rw [hw6]
              clear hw6
              generalize Ix.isPlace of = p2 at *
              cases p2 with
              | false =>
               have hv := HNO.out (by simp)
               go_wp2_with fail
               go_ret
               exact ⟨by first | (rw [hv]; rfl) | rfl, HBN.out⟩
              | true =>
               go_wp2_with fail
               refine (HP3.out _).mono ?_; rintro e w7 ⟨rfl, hw7⟩
               rw [hw7]
               clear hw7
               generalize Ix.isPlace le = p3 at *
               cases p3 with
               | false =>
                have hv := HNO.out (by simp)
                go_wp2_with fail
                go_ret
                exact ⟨by first | (rw [hv]; rfl) | rfl, HBN.out⟩
               | true =>
                have hy := HYES.out (by simp)
                have HY := Lib.hid hy
                clear hy
                go_wp2_with fail
                go_roundw
                case rel => exact ⟨k + 1, by omega, by go_num, HY.out, HBN.out⟩
                case measure => simp [intOf]; omega
        · have e0 : decide ((0 : Int) < (k : Int)) = true := decide_eq_true (by omega)
          have e0n : decide (0 < k) = true := decide_eq_true (by omega)
          rw [decide_eq_false hk0, Bool.false_or] at HNO HYES
          have HP := Lib.hid (HP.out (by omega) rfl)
          have k1 : (k : Int) - 1 = ((k - 1 : Nat) : Int) := by omega
          have k2 : IntKind.i64.wrap ((k - 1 : Nat) : Int) = ((k - 1 : Nat) : Int) := by rw [IntKind.wrap_i64]; omega
          have k3 : (0 : Int) ≤ ((k - 1 : Nat) : Int) := by omega
          have k4 : ((k - 1 : Nat) : Int) < (n : Int) := by omega
          have k5 : k - 1 < n := by omega
          generalize k - 1 = k' at *
          refine wpAnyT_pick (S := (fun U => Below w5.heap.size w5 U)) (by kernel_rfl) Only.panic Only.keepsIn (w := w9) HB9.out [3, 4, 5, 6, 7, 8, 9, 10, 11, 12, 13, 14, 15] 4 _ _ (by kernel_rfl) ?_
          refine PickT.value (d := some 27) (.bool false) rfl rfl (by kernel_rfl) (fun U hU => (by go_simp)) ?_
          refine PickT.value (d := some 28) (.bool false) rfl rfl (by kernel_rfl) (fun U hU => (by go_simp)) ?_
          refine PickT.value (d := some 29) (.int .i64 (k : Int)) rfl rfl (by kernel_rfl) (fun U hU => (by go_simp)) ?_
          refine PickT.value (d := some 30) (.bool true) rfl rfl (by kernel_rfl) (fun U hU => (by go_simp)) ?_
          refine PickT.value (d := some 31) (.bool true) rfl rfl (by kernel_rfl) (fun U hU => (by go_simp)) ?_
          refine PickT.value (d := some 32) (.slice (some ad) n c) rfl rfl (by kernel_rfl) (fun U hU => (by go_simp)) ?_
          refine PickT.value (d := some 33) (.int .i64 (k : Int)) rfl rfl (by kernel_rfl) (fun U hU => (by go_simp)) ?_
          refine PickT.value (d := some 34) (.int .i64 (k' : Int)) rfl rfl (by kernel_rfl) (fun U hU => (by go_simp)) ?_
          refine PickT.value (d := some 35) (.pointer (some (ad.add (k' * 4)))) rfl rfl (by kernel_rfl) (fun U hU => (by go_simp)) ?_
          refine PickT.value (d := some 36) (.pointer (some (ad.add (k' * 4)))) rfl rfl (by kernel_rfl) (fun U hU => (by go_simp)) ?_
          refine PickT.value (d := some 37) (.slice (q k').A (q k').e.l.length (q k').c) rfl rfl (by kernel_rfl) (fun U hU => (by have h0 := (HP.out U (below_step HB5.out hU)).1; go_simp)) ?_
          refine PickT.value (d := some 38) (.pointer (some ⟨eb, 0, none⟩)) rfl rfl (by kernel_rfl) (fun U hU => (by go_simp)) ?_
          refine PickT.value (d := some 39) (.slice (q k).A (q k).e.l.length (q k).c) rfl rfl (by kernel_rfl) (fun U hU => (by have h0 : U.cell? ⟨eb, 0, none⟩ = some (.slice (q k).A (q k).e.l.length (q k).c) := cell_of_row _ _ _ _ _ _ (heap_keep HY5.out hU); go_simp)) ?_
          simp only [PickT, Act.put, List.setIfInBounds_toArray, List.set_cons_zero, List.set_cons_succ]
          refine wpAnyT_one (i := 16) (by kernel_rfl) rfl (by kernel_rfl) ?_
          intro K hK
          unfold Oper.wp
          go_simp
          refine (HP.out _ (below_step HB5.out HB9.out)).2.mono ?_; rintro e w10 ⟨rfl, hb10⟩
          have HB10 := Lib.hid (below_step HB9.out hb10)
          clear hb10 HP
          refine hK _ _ (fun _ => HB10.out) ?_
          clear hK K
          generalize La.less (Ix.key (q k').e.l) (Ix.key (q k).e.l) = l1 at *
          cases l1 with
          | false =>
           refine wpAnyT_pick (S := (fun U => Below w5.heap.size w5 U)) (by kernel_rfl) Only.panic Only.keepsIn (w := w10) HB10.out [17, 18, 19] 0 _ _ (by kernel_rfl) ?_
           refine PickT.value (d := some 41) (.bool true) rfl rfl (by kernel_rfl) (fun U hU => (by go_simp)) ?_
           refine PickT.value (d := some 42) (.bool true) rfl rfl (by kernel_rfl) (fun U hU => (by go_simp)) ?_
           refine PickT.value (d := some 43) (.bool true) rfl rfl (by kernel_rfl) (fun U hU => (by go_simp)) ?_
           simp only [PickT, Act.put, List.setIfInBounds_toArray, List.set_cons_zero, List.set_cons_succ]
           refine wpAnyT_done (by kernel_rfl) ?_ _
           refine only_mk ?_
           have HBN := Lib.hid (below_step (below_step HBL.out HB5.out) HB10.out)
           clear hk0 e0 e0n k1 k2 k3 k4 k5
           have hv := HNO.out (by simp)
           go_wp2_with fail
           go_ret
           exact ⟨by first | (rw [hv]; rfl) | rfl, HBN.out⟩
          | true =>
           refine wpAnyT_pick (S := (fun U => Below w5.heap.size w5 U)) (by kernel_rfl) Only.panic Only.keepsIn (w := w10) HB10.out [17, 18, 19] 0 _ _ (by kernel_rfl) ?_
           refine PickT.value (d := some 41) (.bool false) rfl rfl (by kernel_rfl) (fun U hU => (by go_simp)) ?_
           refine PickT.value (d := some 42) (.bool false) rfl rfl (by kernel_rfl) (fun U hU => (by go_simp)) ?_
           refine PickT.value (d := some 43) (.bool false) rfl rfl (by kernel_rfl) (fun U hU => (by go_simp)) ?_
           simp only [PickT, Act.put, List.setIfInBounds_toArray, List.set_cons_zero, List.set_cons_succ]
           refine wpAnyT_done (by kernel_rfl) ?_ _
           refine only_mk ?_
           clear hk0 e0 e0n k1 k2 k3 k4 k5
           have hyz := heap_keep HY5.out HB10.out
           have y1 := cell_of_row _ _ 1 _ _ _ hyz; have y2 := cell_of_row _ _ 2 _ _ _ hyz; have y3 := cell_of_row _ _ 3 _ _ _ hyz
           simp only [List.getElem?_toArray, List.getElem?_cons_zero, List.getElem?_cons_succ] at y1 y2 y3
           have HBN := Lib.hid (below_step (below_step HBL.out HB5.out) HB10.out)
           clear hyz
           have HP2 := Lib.hid (fun U => isPlace_any (q k).e.off U); have HP3 := Lib.hid (fun U => isPlace_any (q k).e.len U)
           generalize (q k).e.last = la at *
           generalize (q k).e.off = of at *
           generalize (q k).e.len = le at *
           by_cases c1 : la < 0
           · have z1 : decide (0 ≤ la ∧ la ≤ 1125899906842624) = false := decide_eq_false (by omega)
             rw [z1] at HNO
             have e1 : decide (la < 0) = true := decide_eq_true c1
             clear c1 z1
             have hv := HNO.out (by simp)
             go_wp2_with fail
             go_ret
             exact ⟨by first | (rw [hv]; rfl) | rfl, HBN.out⟩
           · have e1 : decide (la < 0) = false := decide_eq_false c1
             by_cases c2 : 1125899906842624 < la
             · have z1 : decide (0 ≤ la ∧ la ≤ 1125899906842624) = false := decide_eq_false (by omega)
               rw [z1] at HNO
               have e2 : decide (1125899906842624 < la) = true := decide_eq_true c2
               clear c1 c2 z1
               have hv := HNO.out (by simp)
               go_wp2_with fail
               go_ret
               exact ⟨by first | (rw [hv]; rfl) | rfl, HBN.out⟩
             · have z1 : decide (0 ≤ la ∧ la ≤ 1125899906842624) = true := decide_eq_true (by omega)
               rw [z1] at HNO HYES
               have e2 : decide (1125899906842624 < la) = false := decide_eq_false c2
               clear c1 c2 z1
               go_wp2_with fail
               refine (HP2.out _).mono ?_; rintro e w6 ⟨rfl, hw6⟩
               rw [hw6]
               clear hw6
               generalize Ix.isPlace of = p2 at *
               cases p2 with
               | false =>
                have hv := HNO.out (by simp)
                go_wp2_with fail
                go_ret
                exact ⟨by first | (rw [hv]; rfl) | rfl, HBN.out⟩
               | true =>
                go_wp2_with fail
                refine (HP3.out _).mono ?_; rintro e w7 ⟨rfl, hw7⟩
                rw [hw7]
                clear hw7
                generalize Ix.isPlace le = p3 at *
                cases p3 with
                | false =>
                 have hv := HNO.out (by simp)
                 go_wp2_with fail
                 go_ret
                 exact ⟨by first | (rw [hv]; rfl) | rfl, HBN.out⟩
                | true =>
                 have hy := HYES.out (by simp)
                 have HY := Lib.hid hy
                 clear hy
                 go_wp2_with fail
                 go_roundw
                 case rel => exact ⟨k + 1, by omega, by go_num, HY.out, HBN.out⟩
                 case measure => simp [intOf]; omega
     · obtain rfl : k = n := by omega
       have dd1 : decide ((k : Int) < (k : Int)) = false := decide_eq_false (by omega)
       go_wp2_with fail
       go_loopw [67] (fun i wr => ∃ j : Nat, j ≤ k ∧ i = .int .i64 j ∧ (∀ i, i < j → Ix.long (q i).e.l ≤ La.limit g) ∧ Below w1.heap.size w1 wr) (fun i _ => k - (intOf i).toNat)
       case atStart => exact ⟨0, by omega, rfl, (fun j hj => absurd hj (by omega)), HBL.out⟩
       case round =>
        obtain ⟨j, hj, rfl, hfit, hb⟩ := hrel
        have HBM := Lib.hid hb; have HFIT := Lib.hid hfit
        clear hb hfit dd1
        have j0 : (0 : Int) ≤ (j : Int) := by omega
        by_cases hjl : j < k
        · have j1 : (j : Int) < (k : Int) := by omega
          have dd2 : decide ((j : Int) < (k : Int)) = true := decide_eq_true j1
          obtain ⟨ad, rfl, x0, x1, x2, x3⟩ := HA.out.cells HBM.out hjl
          have hE := (HA.out.each j hjl).later HBM.out
          have HLG := Lib.hid hE.longest
          obtain ⟨w5, hw5⟩ : ∃ w5, w5 = wr.alloc (.cells (entC (q j)) 59) := ⟨_, rfl⟩
          have hb5 : Below wr.heap.size wr w5 := by rw [hw5]; exact (Below.refl _ _).alloc (Nat.le_refl _) _
          have hy5 : w5.heap[wr.heap.size]? = some (.cells (entC (q j)) 59 (0, 0)) := by rw [hw5]; exact heap_alloc_new wr _
          unfold entC at hw5 hy5
          have HB5 := Lib.hid hb5
          have y0 := cell_of_row _ _ 0 _ _ _ hy5
          simp only [List.getElem?_toArray, List.getElem?_cons_zero] at y0
          obtain ⟨eb, heb⟩ : ∃ eb, eb = wr.heap.size := ⟨_, rfl⟩
          rw [← heb] at y0
          clear hb5 hy5 hE
          go_upto_region 14 with fail
          rw [← hw5, ← heb]
          clear hw5 heb x0 x1 x2 x3
          go_wp2_with fail
          refine (HLG.out _ HB5.out).mono ?_; rintro e w6 ⟨rfl, hb6⟩
          have HB6 := Lib.hid (below_step HBM.out (below_step HB5.out hb6))
          clear hb6 HLG y0
          go_wp2_with fail
          refine (Limit_any g _).mono ?_; rintro e w7 ⟨rfl, rfl⟩
          have HL4 := Lib.hid (V4.out (by trivial) h20 HALL.out j hjl)
          have HFN : Hid (Ix.long (q j).e.l ≤ La.limit g → ∀ i, i < j + 1 → Ix.long (q i).e.l ≤ La.limit g) := Lib.hid (fun h i hi => by
           rcases Nat.lt_or_ge i j with h3 | h3
           · exact HFIT.out i h3
           · rw [show i = j from by omega]; exact h)
          generalize Ix.long (q j).e.l = lg at *
          by_cases hlg : lg ≤ La.limit g
          · have HFN := Lib.hid (HFN.out hlg)
            have g1 : decide (((La.limit g : Nat) : Int) < (lg : Int)) = false := decide_eq_false (by omega)
            have g1n : decide (La.limit g < lg) = false := decide_eq_false (by omega)
            clear hlg HL4
            go_wp2_with fail
            go_roundw
            case rel => exact ⟨j + 1, by omega, by go_num, HFN.out, HB6.out⟩
            case measure => simp [intOf]; omega
          · have hv := HL4.out (by omega)
            have g1 : decide (((La.limit g : Nat) : Int) < (lg : Int)) = true := decide_eq_true (by omega)
            have g1n : decide (La.limit g < lg) = true := decide_eq_true (by omega)
            clear hlg HL4 HFN
            go_wp2_with fail
            go_ret
            exact ⟨by rw [hv]; rfl, HB6.out⟩
        · obtain rfl : j = k := by omega
          have dd2 : decide ((j : Int) < (j : Int)) = false := decide_eq_false (by omega)
          have hv := V5.out (by trivial) h20 HALL.out HFIT.out
          go_wp2_with fail
          go_ret
          exact ⟨by rw [hv]; rfl, HBM.out⟩
  · have d1 : decide ((20 : Int) < (n : Int)) = true := decide_eq_true (by omega)
    go_wp2_with fail
    go_ret
    exact ⟨by rw [V2.out (by omega)]; rfl, Below.refl _ _⟩
end Go.Proofs.YtliobahnekohmaaGreat
/-
  Entries that are alike: the walk.
-/
namespace Go.Proofs.YtliobahnekohmaaGreat
open Go.RowKit
theorem ent_ext {a b : Ix.Ent} : a = b ↔ a.l = b.l ∧ a.last = b.last ∧ a.off = b.off ∧ a.len = b.len := by
 obtain ⟨l, x, y, z⟩ := a
 obtain ⟨l2, x2, y2, z2⟩ := b
 simp
theorem entL_eq {q p : Nat → EAt} {n m : Nat} : entL q n = entL p m ↔ n = m ∧ ∀ i, i < n → (q i).e = (p i).e := by
 constructor
 · intro h
   have hn : n = m := by simpa [entL] using congrArg List.length h
   subst hn
   refine ⟨rfl, fun i hi => ?_⟩
   have := congrArg (fun L => L[i]?) h
   simpa [entL, hi] using this
 · rintro ⟨rfl, h⟩
   unfold entL
   exact List.map_congr_left fun i hi => h i (List.mem_range.1 hi)
theorem EIn.same {w : World} {x y : EAt} (h : EIn w x) (h2 : EIn w y) : ∀ W, Below w.heap.size w W → Calls Tryz.prog 50 #[.slice x.A x.e.l.length x.c, .slice y.A y.e.l.length y.c] W fun e w' => ∃ r, e = .returned (.bool r) ∧ (r = true ↔ x.e.l = y.e.l) ∧ Below W.heap.size W w' := fun W hW =>
 (Same_any x.A y.A x.e.l.length y.e.l.length x.c y.c (by have := h.len; unfold maxLen; omega) (La.at_ x.e.l) (La.at_ y.e.l) W (h.later hW).row (h2.later hW).row).mono fun e V ⟨he, hb⟩ => ⟨_, he, by rw [La.same_iff, La.listOf_at, La.listOf_at], hb⟩
set_option maxRecDepth 100000 in
set_option maxHeartbeats 8000000 in
theorem ISame_any (A B : Option Addr) (n m c d : Nat) (q p : Nat → EAt) (w : World) (hA : EntsIn w A n q) (hB : EntsIn w B m p) :
 Calls Tryz.prog 17 #[.slice A n c, .slice B m d] w fun e w' => ∃ r, e = .returned (.bool r) ∧ (r = true ↔ entL q n = entL p m) ∧ Below w.heap.size w w' := by
 have HEQ := Lib.hid (@entL_eq q p n m)
 have hn := hA.len; have hm := hB.len
 have HA := Lib.hid hA; have HB := Lib.hid hB
 clear hA hB
 go_enter Tryz.func17, Tryz.ntmps17
 by_cases hnm : n = m
 · subst hnm
   have d0 : (((n : Nat) : Int) != ((n : Nat) : Int)) = false := by simp
   have d0b : decide (((n : Nat) : Int) = ((n : Nat) : Int)) = true := by simp
   go_wp2_with fail
   go_loopw [15] (fun i wr => ∃ k : Nat, k ≤ n ∧ i = .int .i64 k ∧ (∀ j, j < k → (q j).e = (p j).e) ∧ Below w.heap.size w wr) (fun i _ => n - (intOf i).toNat)
   case atStart => exact ⟨0, by omega, rfl, (fun j hj => absurd hj (by omega)), Below.refl _ _⟩
   case round =>
    obtain ⟨k, hk, rfl, hall, hb⟩ := hrel
    have HBL := Lib.hid hb; have HALL := Lib.hid hall
    clear hb hall d0 d0b
    have i0 : (0 : Int) ≤ (k : Int) := by omega
    by_cases hlt : k < n
    · have i1 : (k : Int) < (n : Int) := by omega
      have dd1 : decide ((k : Int) < (n : Int)) = true := decide_eq_true i1
      have HNO : Hid (¬ (q k).e = (p k).e → ¬ entL q n = entL p n) := Lib.hid (fun h h2 => h ((HEQ.out.1 h2).2 k hlt))
      have HYES : Hid ((q k).e = (p k).e → ∀ j, j < k + 1 → (q j).e = (p j).e) := Lib.hid (fun h j hj => by
       rcases Nat.lt_or_ge j k with h3 | h3
       · exact HALL.out j h3
       · rw [show j = k from by omega]; exact h)
      rw [ent_ext] at HNO HYES
      obtain ⟨ad, rfl, x0, x1, x2, x3⟩ := HA.out.cells HBL.out hlt
      obtain ⟨bd, rfl, y0, y1, y2, y3⟩ := HB.out.cells HBL.out hlt
      have HSA := Lib.hid (((HA.out.each k hlt).later HBL.out).same ((HB.out.each k hlt).later HBL.out))
      obtain ⟨w5, hw5⟩ : ∃ w5, w5 = (wr.alloc (.cells (entC (q k)) 59)).alloc (.cells (entC (p k)) 59) := ⟨_, rfl⟩
      have hb5 : Below wr.heap.size wr w5 := by rw [hw5]; exact ((Below.refl _ _).alloc (Nat.le_refl _) _).alloc (by simp) _
      have hx5 : w5.heap[wr.heap.size]? = some (.cells (entC (q k)) 59 (0, 0)) := by rw [hw5]; exact heap_alloc2_old wr _ _
      have hy5 : w5.heap[wr.heap.size + 1]? = some (.cells (entC (p k)) 59 (0, 0)) := by rw [hw5]; exact heap_alloc2_new wr _ _
      unfold entC at hw5 hx5 hy5
      have HB5 := Lib.hid hb5; have HX5 := Lib.hid hx5; have HY5 := Lib.hid hy5
      have cx0 := cell_of_row _ _ 0 _ _ _ hx5; have cy0 := cell_of_row _ _ 0 _ _ _ hy5
      simp only [List.getElem?_toArray, List.getElem?_cons_zero] at cx0 cy0
      have y0' := fun U (hU : Below wr.heap.size wr U) => cell_keep y0 hU; have y1' := fun U (hU : Below wr.heap.size wr U) => cell_keep y1 hU; have y2' := fun U (hU : Below wr.heap.size wr U) => cell_keep y2 hU; have y3' := fun U (hU : Below wr.heap.size wr U) => cell_keep y3 hU
      have hbm : Below wr.heap.size wr (wr.alloc (.cells #[.slice (q k).A (q k).e.l.length (q k).c, .int .i64 (q k).e.last, .int .i64 (q k).e.off, .int .i64 (q k).e.len] 59)) := (Below.refl _ _).alloc (Nat.le_refl _) _
      have z0 := y0' _ hbm; have z1 := y1' _ hbm; have z2 := y2' _ hbm; have z3 := y3' _ hbm
      clear hb5 hx5 hy5 y0' y1' y2' y3' hbm
      go_upto_region 7 with fail
      rw [← hw5]
      clear hw5 x0 x1 x2 x3 y0 y1 y2 y3 z0 z1 z2 z3
      go_wp2_with fail
      refine (HSA.out _ HB5.out).mono ?_; rintro e w6 ⟨r1, rfl, hr1, hb6⟩
      have HR1 := Lib.hid hr1; have HB6 := Lib.hid (below_step HBL.out (below_step HB5.out hb6))
      have hx6 := heap_keep HX5.out hb6; have hy6 := heap_keep HY5.out hb6
      clear hr1 hb6 HSA cx0 cy0 HX5 HY5
      have cx1 := cell_of_row _ _ 1 _ _ _ hx6; have cx2 := cell_of_row _ _ 2 _ _ _ hx6; have cx3 := cell_of_row _ _ 3 _ _ _ hx6
      have cy1 := cell_of_row _ _ 1 _ _ _ hy6; have cy2 := cell_of_row _ _ 2 _ _ _ hy6; have cy3 := cell_of_row _ _ 3 _ _ _ hy6
      simp only [List.getElem?_toArray, List.getElem?_cons_zero, List.getElem?_cons_succ] at cx1 cx2 cx3 cy1 cy2 cy3
      clear hx6 hy6
      generalize (q k).e.last = a1 at *
      generalize (q k).e.off = a2 at *
      generalize (q k).e.len = a3 at *
      generalize (p k).e.last = b1 at *
      generalize (p k).e.off = b2 at *
      generalize (p k).e.len = b3 at *
      cases r1 with
      | false =>
       have hv := HNO.out (fun h => by have := HR1.out.2 h.1; cases this)
       go_wp2_with fail
       go_ret
       exact ⟨false, rfl, ⟨fun h => (by cases h), fun h => absurd h hv⟩, HB6.out⟩
      | true =>
       have hlab := HR1.out.1 (by trivial)
       by_cases e1 : a1 = b1
       · have f1 : (a1 != b1) = false := by simp [e1]
         by_cases e2 : a2 = b2
         · have f2 : (a2 != b2) = false := by simp [e2]
           by_cases e3 : a3 = b3
           · have f3 : (a3 != b3) = false := by simp [e3]
             have HY := Lib.hid (HYES.out ⟨hlab, e1, e2, e3⟩)
             clear e1 e2 e3 hlab HNO HYES
             go_wp2_with fail
             go_roundw
             case rel => exact ⟨k + 1, by omega, by go_num, HY.out, HB6.out⟩
             case measure => simp [intOf]; omega
           · have f3 : (a3 != b3) = true := by simp [e3]
             have hv := HNO.out (fun h => e3 h.2.2.2)
             clear e1 e2 e3 hlab HNO HYES
             go_wp2_with fail
             go_ret
             exact ⟨false, rfl, ⟨fun h => (by cases h), fun h => absurd h hv⟩, HB6.out⟩
         · have f2 : (a2 != b2) = true := by simp [e2]
           have hv := HNO.out (fun h => e2 h.2.2.1)
           clear e1 e2 hlab HNO HYES
           go_wp2_with fail
           go_ret
           exact ⟨false, rfl, ⟨fun h => (by cases h), fun h => absurd h hv⟩, HB6.out⟩
       · have f1 : (a1 != b1) = true := by simp [e1]
         have hv := HNO.out (fun h => e1 h.2.1)
         clear e1 hlab HNO HYES
         go_wp2_with fail
         go_ret
         exact ⟨false, rfl, ⟨fun h => (by cases h), fun h => absurd h hv⟩, HB6.out⟩
    · obtain rfl : k = n := by omega
      have dd1 : decide ((k : Int) < (k : Int)) = false := decide_eq_false (by omega)
      have hv := HEQ.out.2 ⟨by trivial, HALL.out⟩
      have HV := Lib.hid hv
      clear hv
      go_wp2_with fail
      go_ret
      exact ⟨true, rfl, ⟨fun _ => HV.out, fun _ => by trivial⟩, HBL.out⟩
 · have d0 : (((n : Nat) : Int) != ((m : Nat) : Int)) = true := by simp; omega
   have HV : Hid (¬ entL q n = entL p m) := Lib.hid (fun h => hnm (HEQ.out.1 h).1)
   clear hnm
   go_wp2_with fail
   go_ret
   exact ⟨false, rfl, ⟨fun h => (by cases h), fun h => absurd h HV.out⟩, Below.refl _ _⟩
end Go.Proofs.YtliobahnekohmaaGreat
