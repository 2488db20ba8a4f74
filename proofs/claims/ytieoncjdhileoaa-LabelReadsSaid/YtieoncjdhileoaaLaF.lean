/-
  What the functions of package label come to: Show.
-/
import Derived.Test.YtieoncjdhileoaaLaD
namespace Go.Proofs.Ytieoncjdhileoaa
open Go.RowKit
namespace La
/-- a value as it is shown -/
def esc (l : List UInt8) : List UInt8 := l.flatMap fun c => if c = 34 ∨ c = 92 then [92, c] else [c]
theorem esc_snoc (l : List UInt8) (c : UInt8) : esc (l ++ [c]) = esc l ++ (if c = 34 ∨ c = 92 then [92, c] else [c]) := by simp [esc]
theorem esc_length (l : List UInt8) : (esc l).length ≤ 2 * l.length := by
  induction l with
  | nil => simp [esc]
  | cons c l ih =>
    have e : esc (c :: l) = (if c = 34 ∨ c = 92 then [92, c] else [c]) ++ esc l := rfl
    have h : (if c = 34 ∨ c = 92 then [92, c] else [c] : List UInt8).length ≤ 2 := by split <;> simp
    rw [e, List.length_append, List.length_cons]
    omega
/-- labels as they are shown, but for the end -/
def shown (f : Nat → Lab) : Nat → List UInt8
  | 0 => [123]
  | k + 1 => shown f k ++ (if k = 0 then [] else [44]) ++ (f k).1.data.toList ++ [61, 34] ++ esc (f k).2.data.toList ++ [34]
def showB (f : Nat → Lab) (n : Nat) : ByteArray := ⟨(shown f n ++ [125]).toArray⟩
theorem shown_length (f : Nat → Lab) : ∀ k, (∀ i, i < k → (f i).1.size ≤ 300 ∧ (f i).2.size ≤ 300) → (shown f k).length ≤ 1 + k * 1000
  | 0, _ => by simp [shown]
  | k + 1, h => by
    have h1 := shown_length f k (fun i hi => h i (by omega))
    have h2 := h k (by omega)
    have h3 := esc_length (f k).2.data.toList
    have h4 : (f k).1.data.toList.length = (f k).1.size := by simp
    have h5 : (f k).2.data.toList.length = (f k).2.size := by simp
    have h6 : (if k = 0 then [] else [44] : List UInt8).length ≤ 1 := by split <;> simp
    simp only [shown, List.length_append, List.length_cons, List.length_nil]
    omega
theorem take_byte (s : ByteArray) (k : Nat) (h : k < s.size) : s.data.toList.take (k + 1) = s.data.toList.take k ++ [s[k]] := by
  rw [List.take_succ_eq_append_getElem (by simpa using h)]; rfl
end La

set_option maxRecDepth 100000 in
set_option maxHeartbeats 4000000 in
theorem Show_any (A : Option Addr) (n c : Nat) (hn : n ≤ 1000) (f : Nat → Lab) (hs : ∀ i, i < n → (f i).1.size ≤ 300 ∧ (f i).2.size ≤ 300) (w : World) (hA : LabRow w A n f) :
    Calls Try.prog 21 #[.slice A n c] w fun e w' => e = .returned (.string (La.showB f n)) ∧ Below w.heap.size w w' := by
  have HA := Lib.hid hA; have HSZ := Lib.hid hs; clear hA hs
  have hnew := BldAt.new w
  have hb0 : Below w.heap.size w (w.alloc (.cells #[.pointer none, .slice none 0 0] 49)) := (Below.refl _ _).alloc (Nat.le_refl _) _
  have HNEW := Lib.hid hnew; have HB0 := Lib.hid hb0; clear hnew hb0
  have hbyte := fun (l : List UInt8) (x : UInt8) (W : World) (h : BldAt W w.heap.size w.heap.size l) (hl : l.length ≤ 1099511627) (hz : w.heap.size ≤ W.heap.size) => bldByte w.heap.size w.heap.size l x W h (by omega) hz
  have HBY := Lib.hid hbyte; clear hbyte
  go_enter Try.func21, Try.ntmps21
  go_wp2_with fail
  refine (HBY.out [] 123 _ HNEW.out (by simp) HB0.out.size).mono ?_; rintro e w1 ⟨rfl, hl1, hb1, _⟩
  have HB1 := Lib.hid (HB0.out.trans hb1); have HL1 := Lib.hid hl1
  clear hb1 hl1
  go_wp2_with fail
  go_loopw [10] (fun i wr => ∃ k : Nat, k ≤ n ∧ i = .int .i64 k ∧ BldAt wr w.heap.size w.heap.size (La.shown f k) ∧ Below w.heap.size w wr) (fun i _ => n - (intOf i).toNat)
  case atStart => exact ⟨0, by omega, rfl, HL1.out, HB1.out⟩
  case round =>
    obtain ⟨k, hk, rfl, hbl, hb⟩ := hrel
    obtain ⟨wo, rfl⟩ : ∃ wo : World, wo = wr := ⟨_, rfl⟩
    have HB := Lib.hid hb; have HBL := Lib.hid hbl; clear hb hbl
    by_cases hlt : k < n
    · obtain ⟨ad, rfl, c0, c1⟩ := HA.out.at_ HB.out hlt
      have hsz := HSZ.out k hlt
      have hsl := La.shown_length f k (fun i hi => HSZ.out i (by omega))
      have hsn : La.shown f (k + 1) = La.shown f k ++ (if k = 0 then [] else [44]) ++ (f k).1.data.toList ++ [61, 34] ++ La.esc (f k).2.data.toList ++ [34] := rfl
      have HSN := Lib.hid hsn; clear hsn
      have hal : Below wo.heap.size wo (wo.alloc (.cells #[.string (f k).1, .string (f k).2] 38)) := (Below.refl _ _).alloc (Nat.le_refl _) _
      have hrow : RowIs (wo.alloc (.cells #[.string (f k).1, .string (f k).2] 38)) wo.heap.size (.cells #[.string (f k).1, .string (f k).2] 38) := RowIs.one _ _
      have HBA := Lib.hid (below_step HB.out hal); have HBLA := Lib.hid (HBL.out.keep hal); have HROW := Lib.hid hrow
      have hwb : wo.heap.size ≠ w.heap.size := by have := HBL.out.lt; omega
      clear hal hrow
      generalize (f k).1 = x at *
      generalize (f k).2 = y at *
      have hxl : x.data.toList.length = x.size := by simp
      have hyl : y.data.toList.length = y.size := by simp
      generalize La.shown f k = kk at *
      have HXL := Lib.hid hxl; have HYL := Lib.hid hyl; clear hxl hyl
      generalize hwa : wo.alloc (.cells #[.string x, .string y] 38) = wa at *
      by_cases k0 : k = 0
      · have K0 := Lib.hid k0
        have hd0 : decide ((0 : Int) < (k : Int)) = false := by simp; omega
        have hd0n : decide (0 < k) = false := by simp; omega
        clear k0
        have HB2 := HBA; have HBL2 := HBLA; have HROW2 := HROW
        obtain ⟨k1, hk1⟩ : ∃ k1, kk = k1 := ⟨_, rfl⟩
        have hk1l : k1.length ≤ 1001001 := by rw [← hk1]; omega
        rw [hk1] at HBL2
        have HK1 := Lib.hid hk1; clear hk1
        have x0 : wa.cell? ⟨wo.heap.size, 0, none⟩ = some (.string x) := cell_of_row _ _ _ _ _ _ HROW2.out
        go_wp2_with fail
        refine (bldString w.heap.size w.heap.size k1 x wa HBL2.out (by omega) HB2.out.size).mono ?_; rintro e w3 ⟨rfl, hl3, hb3, ho3⟩
        have HB3 := Lib.hid (HB2.out.trans hb3); have HBL3 := Lib.hid hl3; have HROW3 : Hid (RowIs w3 wo.heap.size (.cells #[.string x, .string y] 38)) := Lib.hid (ho3 _ _ _ HROW2.out hwb (by decide))
        clear hb3 hl3 ho3 x0
        go_wp2_with fail
        refine (bldString w.heap.size w.heap.size _ ⟨#[61, 34]⟩ w3 HBL3.out (by have := HXL.out; rw [List.length_append]; show _ + 2 ≤ _; omega) HB3.out.size).mono ?_; rintro e w4 ⟨rfl, hl4, hb4, ho4⟩
        have HB4 := Lib.hid (HB3.out.trans hb4); have HROW4 : Hid (RowIs w4 wo.heap.size (.cells #[.string x, .string y] 38)) := Lib.hid (ho4 _ _ _ HROW3.out hwb (by decide))
        have hl4' : BldAt w4 w.heap.size w.heap.size (k1 ++ x.data.toList ++ [61, 34]) := hl4
        have HBL4 := Lib.hid hl4'
        have y0 : w4.cell? ⟨wo.heap.size, 1, none⟩ = some (.string y) := cell_of_row _ _ _ _ _ _ HROW4.out
        have hk2 : (k1 ++ x.data.toList ++ [61, 34]).length ≤ 1002000 := by have := HXL.out; simp only [List.length_append, List.length_cons, List.length_nil]; omega
        generalize hk2e : k1 ++ x.data.toList ++ [61, 34] = k2 at *
        have HK2 := Lib.hid hk2e; clear hk2e
        clear hb4 hl4 ho4 hl4'
        go_wp2_with fail
        clear y0
        go_loopw [25] (fun i ws => ∃ j : Nat, j ≤ y.size ∧ i = .int .i64 j ∧ BldAt ws w.heap.size w.heap.size (k2 ++ La.esc (y.data.toList.take j)) ∧ RowIs ws wo.heap.size (.cells #[.string x, .string y] 38) ∧ Below w.heap.size w ws) (fun i _ => y.size - (intOf i).toNat)
        case atStart => exact ⟨0, by omega, rfl, by simpa [La.esc] using HBL4.out, HROW4.out, HB4.out⟩
        case round =>
          obtain ⟨j, hj, rfl, hbl5, hrow5, hb5⟩ := hrel
          have HBL5 := Lib.hid hbl5; have HROW5 := Lib.hid hrow5; have HB5 := Lib.hid hb5
          clear hbl5 hrow5 hb5
          have y0 : wr.cell? ⟨wo.heap.size, 1, none⟩ = some (.string y) := cell_of_row _ _ _ _ _ _ HROW5.out
          have hel := La.esc_length (y.data.toList.take j)
          have htl : (y.data.toList.take j).length ≤ j := List.length_take_le _ _
          by_cases hjl : j < y.size
          · have htk := La.take_byte y j hjl
            have hes := La.esc_snoc (y.data.toList.take j) y[j]
            rw [← htk] at hes
            have HES := Lib.hid hes; clear hes htk
            generalize La.esc (y.data.toList.take j) = es at *
            have i1 : (j : Int) < (y.size : Int) := by omega
            have i0 : (0 : Int) ≤ (j : Int) := by omega
            obtain ⟨z, hz⟩ : ∃ z, y[j] = z := ⟨_, rfl⟩
            rw [hz] at HES
            have hkl : (k2 ++ es).length ≤ 1004000 := by rw [List.length_append]; omega
            by_cases hq : z = 34 ∨ z = 92
            · have hd : (((z.toNat : Nat) : Int) == 34) = true ∨ ((((z.toNat : Nat) : Int) == 34) = false ∧ (((z.toNat : Nat) : Int) == 92) = true) := by
                rcases hq with rfl | rfl
                · left; rfl
                · right; exact ⟨rfl, rfl⟩
              have HQ := Lib.hid hq; clear hq
              rcases hd with q1 | ⟨q1, q2⟩
              all_goals
                go_wp2_with fail
                refine (HBY.out (k2 ++ es) 92 _ HBL5.out (by omega) HB5.out.size).mono ?_; rintro e w6 ⟨rfl, hl6, hb6, ho6⟩
                have HB6 := Lib.hid (HB5.out.trans hb6); have HBL6 := Lib.hid hl6; have HROW6 : Hid (RowIs w6 wo.heap.size (.cells #[.string x, .string y] 38)) := Lib.hid (ho6 _ _ _ HROW5.out hwb (by decide))
                have y1 : w6.cell? ⟨wo.heap.size, 1, none⟩ = some (.string y) := cell_of_row _ _ _ _ _ _ HROW6.out
                clear hb6 hl6 ho6
                go_wp2_with fail
                refine (HBY.out (k2 ++ es ++ [92]) z _ HBL6.out (by rw [List.length_append]; simp only [List.length_cons, List.length_nil]; omega) HB6.out.size).mono ?_; rintro e w7 ⟨rfl, hl7, hb7, ho7⟩
                have HB7 := Lib.hid (HB6.out.trans hb7); have HBL7 := Lib.hid hl7; have HROW7 : Hid (RowIs w7 wo.heap.size (.cells #[.string x, .string y] 38)) := Lib.hid (ho7 _ _ _ HROW6.out hwb (by decide))
                clear hb7 hl7 ho7 y1
                go_wp2_with fail
                go_roundw
                case rel =>
                  refine ⟨j + 1, by omega, by go_num, ?_, HROW7.out, HB7.out⟩
                  rw [HES.out, if_pos HQ.out]
                  have := HBL7.out
                  simpa using this
                case measure => simp [intOf]; omega
            · have q1 : (((z.toNat : Nat) : Int) == 34) = false := by
                simp only [beq_eq_false_iff_ne]; intro e; exact hq (.inl (UInt8.toNat_inj.1 (by have : (34 : UInt8).toNat = 34 := rfl; omega)))
              have q2 : (((z.toNat : Nat) : Int) == 92) = false := by
                simp only [beq_eq_false_iff_ne]; intro e; exact hq (.inr (UInt8.toNat_inj.1 (by have : (92 : UInt8).toNat = 92 := rfl; omega)))
              have HQ := Lib.hid hq; clear hq
              go_wp2_with fail
              refine (HBY.out (k2 ++ es) z _ HBL5.out (by omega) HB5.out.size).mono ?_; rintro e w7 ⟨rfl, hl7, hb7, ho7⟩
              have HB7 := Lib.hid (HB5.out.trans hb7); have HBL7 := Lib.hid hl7; have HROW7 : Hid (RowIs w7 wo.heap.size (.cells #[.string x, .string y] 38)) := Lib.hid (ho7 _ _ _ HROW5.out hwb (by decide))
              clear hb7 hl7 ho7
              go_wp2_with fail
              go_roundw
              case rel =>
                refine ⟨j + 1, by omega, by go_num, ?_, HROW7.out, HB7.out⟩
                rw [HES.out, if_neg HQ.out]
                have := HBL7.out
                simpa using this
              case measure => simp [intOf]; omega
          · have htk : y.data.toList.take j = y.data.toList := List.take_of_length_le (by have := HYL.out; omega)
            rw [htk] at HBL5 hel
            have hkl : (k2 ++ La.esc y.data.toList).length ≤ 1004000 := by have := HYL.out; rw [List.length_append]; omega
            generalize hey : La.esc y.data.toList = es at *
            have HEY := Lib.hid hey; clear hey hel htl htk
            go_wp2_with fail
            refine (HBY.out (k2 ++ es) 34 _ HBL5.out (by omega) HB5.out.size).mono ?_; rintro e w7 ⟨rfl, hl7, hb7, ho7⟩
            have HB7 := Lib.hid (HB5.out.trans hb7); have HBL7 := Lib.hid hl7
            clear hb7 hl7 ho7
            go_wp2_with fail
            go_roundw
            case rel =>
              refine ⟨k + 1, by omega, by go_num, ?_, HB7.out⟩
              rw [HSN.out, if_pos K0.out]
              have := HBL7.out
              rw [← HK2.out, ← HK1.out] at this
              simpa using this
            case measure => simp [intOf]; omega
      · have hd0 : decide ((0 : Int) < (k : Int)) = true := by simp; omega
        have hd0n : decide (0 < k) = true := by simp; omega
        go_wp2_with fail
        refine (HBY.out kk 44 _ HBLA.out (by omega) HBA.out.size).mono ?_; rintro e w2 ⟨rfl, hl2, hb2, ho2⟩
        have HB2 := Lib.hid (HBA.out.trans hb2); have HROW2 : Hid (RowIs w2 wo.heap.size (.cells #[.string x, .string y] 38)) := Lib.hid (ho2 _ _ _ HROW.out hwb (by decide))
        obtain ⟨k1, hk1⟩ : ∃ k1, kk ++ [44] = k1 := ⟨_, rfl⟩
        rw [hk1] at hl2
        have hk1l : k1.length ≤ 1001001 := by rw [← hk1, List.length_append]; simp only [List.length_cons, List.length_nil]; omega
        have HBL2 := Lib.hid hl2; have HK1 := Lib.hid hk1
        clear hb2 hl2 ho2 hk1
        have x0 : w2.cell? ⟨wo.heap.size, 0, none⟩ = some (.string x) := cell_of_row _ _ _ _ _ _ HROW2.out
        go_wp2_with fail
        refine (bldString w.heap.size w.heap.size k1 x w2 HBL2.out (by omega) HB2.out.size).mono ?_; rintro e w3 ⟨rfl, hl3, hb3, ho3⟩
        have HB3 := Lib.hid (HB2.out.trans hb3); have HBL3 := Lib.hid hl3; have HROW3 : Hid (RowIs w3 wo.heap.size (.cells #[.string x, .string y] 38)) := Lib.hid (ho3 _ _ _ HROW2.out hwb (by decide))
        clear hb3 hl3 ho3 x0
        go_wp2_with fail
        refine (bldString w.heap.size w.heap.size _ ⟨#[61, 34]⟩ w3 HBL3.out (by have := HXL.out; rw [List.length_append]; show _ + 2 ≤ _; omega) HB3.out.size).mono ?_; rintro e w4 ⟨rfl, hl4, hb4, ho4⟩
        have HB4 := Lib.hid (HB3.out.trans hb4); have HROW4 : Hid (RowIs w4 wo.heap.size (.cells #[.string x, .string y] 38)) := Lib.hid (ho4 _ _ _ HROW3.out hwb (by decide))
        have hl4' : BldAt w4 w.heap.size w.heap.size (k1 ++ x.data.toList ++ [61, 34]) := hl4
        have HBL4 := Lib.hid hl4'
        have y0 : w4.cell? ⟨wo.heap.size, 1, none⟩ = some (.string y) := cell_of_row _ _ _ _ _ _ HROW4.out
        have hk2 : (k1 ++ x.data.toList ++ [61, 34]).length ≤ 1002000 := by have := HXL.out; simp only [List.length_append, List.length_cons, List.length_nil]; omega
        generalize hk2e : k1 ++ x.data.toList ++ [61, 34] = k2 at *
        have HK2 := Lib.hid hk2e; clear hk2e
        clear hb4 hl4 ho4 hl4'
        go_wp2_with fail
        clear y0
        go_loopw [25] (fun i ws => ∃ j : Nat, j ≤ y.size ∧ i = .int .i64 j ∧ BldAt ws w.heap.size w.heap.size (k2 ++ La.esc (y.data.toList.take j)) ∧ RowIs ws wo.heap.size (.cells #[.string x, .string y] 38) ∧ Below w.heap.size w ws) (fun i _ => y.size - (intOf i).toNat)
        case atStart => exact ⟨0, by omega, rfl, by simpa [La.esc] using HBL4.out, HROW4.out, HB4.out⟩
        case round =>
          obtain ⟨j, hj, rfl, hbl5, hrow5, hb5⟩ := hrel
          have HBL5 := Lib.hid hbl5; have HROW5 := Lib.hid hrow5; have HB5 := Lib.hid hb5
          clear hbl5 hrow5 hb5
          have y0 : wr.cell? ⟨wo.heap.size, 1, none⟩ = some (.string y) := cell_of_row _ _ _ _ _ _ HROW5.out
          have hel := La.esc_length (y.data.toList.take j)
          have htl : (y.data.toList.take j).length ≤ j := List.length_take_le _ _
          by_cases hjl : j < y.size
          · have htk := La.take_byte y j hjl
            have hes := La.esc_snoc (y.data.toList.take j) y[j]
            rw [← htk] at hes
            have HES := Lib.hid hes; clear hes htk
            generalize La.esc (y.data.toList.take j) = es at *
            have i1 : (j : Int) < (y.size : Int) := by omega
            have i0 : (0 : Int) ≤ (j : Int) := by omega
            obtain ⟨z, hz⟩ : ∃ z, y[j] = z := ⟨_, rfl⟩
            rw [hz] at HES
            have hkl : (k2 ++ es).length ≤ 1004000 := by rw [List.length_append]; omega
            by_cases hq : z = 34 ∨ z = 92
            · have hd : (((z.toNat : Nat) : Int) == 34) = true ∨ ((((z.toNat : Nat) : Int) == 34) = false ∧ (((z.toNat : Nat) : Int) == 92) = true) := by
                rcases hq with rfl | rfl
                · left; rfl
                · right; exact ⟨rfl, rfl⟩
              have HQ := Lib.hid hq; clear hq
              rcases hd with q1 | ⟨q1, q2⟩
              all_goals
                go_wp2_with fail
                refine (HBY.out (k2 ++ es) 92 _ HBL5.out (by omega) HB5.out.size).mono ?_; rintro e w6 ⟨rfl, hl6, hb6, ho6⟩
                have HB6 := Lib.hid (HB5.out.trans hb6); have HBL6 := Lib.hid hl6; have HROW6 : Hid (RowIs w6 wo.heap.size (.cells #[.string x, .string y] 38)) := Lib.hid (ho6 _ _ _ HROW5.out hwb (by decide))
                have y1 : w6.cell? ⟨wo.heap.size, 1, none⟩ = some (.string y) := cell_of_row _ _ _ _ _ _ HROW6.out
                clear hb6 hl6 ho6
                go_wp2_with fail
                refine (HBY.out (k2 ++ es ++ [92]) z _ HBL6.out (by rw [List.length_append]; simp only [List.length_cons, List.length_nil]; omega) HB6.out.size).mono ?_; rintro e w7 ⟨rfl, hl7, hb7, ho7⟩
                have HB7 := Lib.hid (HB6.out.trans hb7); have HBL7 := Lib.hid hl7; have HROW7 : Hid (RowIs w7 wo.heap.size (.cells #[.string x, .string y] 38)) := Lib.hid (ho7 _ _ _ HROW6.out hwb (by decide))
                clear hb7 hl7 ho7 y1
                go_wp2_with fail
                go_roundw
                case rel =>
                  refine ⟨j + 1, by omega, by go_num, ?_, HROW7.out, HB7.out⟩
                  rw [HES.out, if_pos HQ.out]
                  have := HBL7.out
                  simpa using this
                case measure => simp [intOf]; omega
            · have q1 : (((z.toNat : Nat) : Int) == 34) = false := by
                simp only [beq_eq_false_iff_ne]; intro e; exact hq (.inl (UInt8.toNat_inj.1 (by have : (34 : UInt8).toNat = 34 := rfl; omega)))
              have q2 : (((z.toNat : Nat) : Int) == 92) = false := by
                simp only [beq_eq_false_iff_ne]; intro e; exact hq (.inr (UInt8.toNat_inj.1 (by have : (92 : UInt8).toNat = 92 := rfl; omega)))
              have HQ := Lib.hid hq; clear hq
              go_wp2_with fail
              refine (HBY.out (k2 ++ es) z _ HBL5.out (by omega) HB5.out.size).mono ?_; rintro e w7 ⟨rfl, hl7, hb7, ho7⟩
              have HB7 := Lib.hid (HB5.out.trans hb7); have HBL7 := Lib.hid hl7; have HROW7 : Hid (RowIs w7 wo.heap.size (.cells #[.string x, .string y] 38)) := Lib.hid (ho7 _ _ _ HROW5.out hwb (by decide))
              clear hb7 hl7 ho7
              go_wp2_with fail
              go_roundw
              case rel =>
                refine ⟨j + 1, by omega, by go_num, ?_, HROW7.out, HB7.out⟩
                rw [HES.out, if_neg HQ.out]
                have := HBL7.out
                simpa using this
              case measure => simp [intOf]; omega
          · have htk : y.data.toList.take j = y.data.toList := List.take_of_length_le (by have := HYL.out; omega)
            rw [htk] at HBL5 hel
            have hkl : (k2 ++ La.esc y.data.toList).length ≤ 1004000 := by have := HYL.out; rw [List.length_append]; omega
            generalize hey : La.esc y.data.toList = es at *
            have HEY := Lib.hid hey; clear hey hel htl htk
            go_wp2_with fail
            refine (HBY.out (k2 ++ es) 34 _ HBL5.out (by omega) HB5.out.size).mono ?_; rintro e w7 ⟨rfl, hl7, hb7, ho7⟩
            have HB7 := Lib.hid (HB5.out.trans hb7); have HBL7 := Lib.hid hl7
            clear hb7 hl7 ho7
            go_wp2_with fail
            go_roundw
            case rel =>
              refine ⟨k + 1, by omega, by go_num, ?_, HB7.out⟩
              rw [HSN.out, if_neg k0]
              have := HBL7.out
              rw [← HK2.out, ← HK1.out] at this
              simpa using this
            case measure => simp [intOf]; omega
    · obtain rfl : k = n := by omega
      have hsl := La.shown_length f k (fun i hi => HSZ.out i (by omega))
      go_wp2_with fail
      refine (HBY.out (La.shown f k) 125 _ HBL.out (by omega) HB.out.size).mono ?_; rintro e w2 ⟨rfl, hl2, hb2, _⟩
      have HB2 := Lib.hid (HB.out.trans hb2); have HBL2 := Lib.hid hl2; clear hb2 hl2
      go_wp2_with fail
      refine (bldText w.heap.size w.heap.size _ _ HBL2.out HB2.out.size).mono ?_; rintro e w4 ⟨rfl, hb4⟩
      have HB4 := Lib.hid (HB2.out.trans hb4); clear hb4
      go_wp2_with fail
      go_ret
      exact ⟨rfl, HB4.out⟩
end Go.Proofs.Ytieoncjdhileoaa
