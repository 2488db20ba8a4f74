/-
  Labels: what the reference Show comes to.
-/
import Derived.Test.YtieoncjdhileoaaLaX
namespace Go.Proofs.Ytieoncjdhileoaa
open Go.RowKit
theorem conv_one (b : UInt8) (B : World) : (convert 42 9 (.slice (some ⟨B.heap.size, 0, none⟩) 1 1)).run Try.prog (B.alloc (.cells #[.int .u8 (b.toNat : Int)] 5)) = .ok (.string ⟨#[b]⟩) (B.alloc (.cells #[.int .u8 (b.toNat : Int)] 5)) :=
  arr_take (P := Try.prog) _ B.heap.size 42 5 9 5 [b] Try.underlying42 Try.underlying5 Try.underlying9 (heap_alloc_new B _) 1 1 (Nat.le_refl 1)

set_option maxRecDepth 100000 in
set_option maxHeartbeats 2000000 in
theorem rShow_any (A : Option Addr) (n c : Nat) (hn : n ≤ 10) (f : Nat → Lab) (hs : ∀ i, i < n → (f i).1.size ≤ 300 ∧ (f i).2.size ≤ 300) (w : World) (hA : LabRow w A n f) :
    Calls Try.prog 22 #[.slice A n c] w fun e w' => e = .returned (.string (La.showB f n)) ∧ Below w.heap.size w w' := by
  have HA := Lib.hid hA; have HSZ := Lib.hid hs; clear hA hs
  go_enter Try.func22, Try.ntmps22
  go_wp2_with fail
  go_loopw [3, 4] (fun t i wr => ∃ (k : Nat) (T : ByteArray), k ≤ n ∧ i = .int .i64 k ∧ t = .string T ∧ T.data.toList = La.shown f k ∧ Below w.heap.size w wr) (fun _ i _ => n - (intOf i).toNat)
  case atStart => exact ⟨0, ⟨#[123]⟩, by omega, rfl, rfl, rfl, Below.refl _ _⟩
  case round =>
    obtain ⟨k, T, hk, rfl, rfl, hT, hb⟩ := hrel
    obtain ⟨wo, rfl⟩ : ∃ wo : World, wo = wr := ⟨_, rfl⟩
    have HB := Lib.hid hb; have HT := Lib.hid hT; clear hb
    have hTs : T.size ≤ 11000 := by rw [Lib.size_eq, hT]; have := La.shown_length f k (fun i hi => HSZ.out i (by omega)); omega
    clear hT
    by_cases hlt : k < n
    · obtain ⟨ad, rfl, c0, c1⟩ := HA.out.at_ HB.out hlt
      have hsz := HSZ.out k hlt
      have hsn : La.shown f (k + 1) = La.shown f k ++ (if k = 0 then [] else [44]) ++ (f k).1.data.toList ++ [61, 34] ++ La.esc (f k).2.data.toList ++ [34] := rfl
      rw [← HT.out] at hsn
      have hc0 : ∀ U, Below wo.heap.size wo U → U.cell? (ad.add (k * 2)) = some (.string (f k).1) := fun U hU => (hU.cell (block_lt_of_cell c0)).trans c0
      have hc1 : ∀ U, Below w.heap.size w U → U.cell? ⟨(ad.add (k * 2)).block, (ad.add (k * 2)).off + 1, none⟩ = some (.string (f k).2) := fun U hU => by
        obtain ⟨ad2, e, _, x1⟩ := HA.out.at_ hU hlt
        cases e; exact x1
      have HSN := Lib.hid hsn; clear hsn c0 c1
      generalize (f k).1 = x at *
      generalize (f k).2 = y at *
      have HC0 := Lib.hid hc0; have HC1 := Lib.hid hc1; clear hc0 hc1
      have i1 : (k : Int) < (n : Int) := by omega
      have i0 : (0 : Int) ≤ (k : Int) := by omega
      by_cases k0 : k = 0
      · have d0 : decide ((0 : Int) < (k : Int)) = false := by simp; omega
        have d0n : decide (0 < k) = false := by simp; omega
        have HK0 := Lib.hid k0; clear k0
        go_wp2_with fail
        obtain ⟨K1, hK1⟩ : ∃ K1 : ByteArray, T = K1 := ⟨_, rfl⟩
        have hK1s : K1.size ≤ 11001 := by rw [← hK1]; exact Nat.le_succ_of_le hTs
        rw [hK1]
        refine plain_held (fun U => Below wo.heap.size wo U) (by kernel_rfl) ?_
        have hbd : Below wo.heap.size wo wo.drew := Below.drew (Below.refl _ _)
        generalize wo.drew = wd at *
        have HBD := Lib.hid hbd; clear hbd
        have z1 : ¬ 9223372036854775807 < K1.size + x.size := by omega
        have z2 : K1.size + x.size ≤ 9223372036854775806 := by omega
        have z3 : K1.size + x.size ≤ 9223372036854775805 := by omega
        have z4 : K1.size + x.size + 1 ≤ 9223372036854775806 := by omega
        have z5 : ¬ 9223372036854775807 < K1.size + x.size + 1 + 1 := by omega
        refine wpAnyH_pickQ (by kernel_rfl) Only.panic Only.keepsIn (w := wd) HBD.out [0, 1, 2, 3, 4, 5, 6, 7] 4 _ _ (by kernel_rfl) ?_
        refine PickQ.value (d := some 17) (.string K1) rfl rfl (by kernel_rfl) (fun U hU => (by go_simp)) ?_
        refine PickQ.value (d := some 18) (.slice (some ad) n c) rfl rfl (by kernel_rfl) (fun U hU => (by go_simp)) ?_
        refine PickQ.value (d := some 19) (.int .i64 k) rfl rfl (by kernel_rfl) (fun U hU => (by go_simp)) ?_
        refine PickQ.value (d := some 20) (.pointer (some (ad.add (k * 2)))) rfl rfl (by kernel_rfl) (fun U hU => (by go_simp)) ?_
        refine PickQ.value (d := some 21) (.pointer (some (ad.add (k * 2)))) rfl rfl (by kernel_rfl) (fun U hU => (by go_simp)) ?_
        refine PickQ.value (d := some 22) (.string x) rfl rfl (by kernel_rfl) (fun U hU => (by have := HC0.out U hU; go_simp)) ?_
        refine PickQ.value (d := some 23) (.string (K1 ++ x)) rfl rfl (by kernel_rfl) (fun U hU => (by go_simp)) ?_
        refine PickQ.value (d := some 24) (.string (K1 ++ x ++ ⟨#[61]⟩)) rfl rfl (by kernel_rfl) (fun U hU => (by go_simp)) ?_
        simp only [PickQ, Act.put, List.setIfInBounds_toArray, List.set_cons_zero, List.set_cons_succ]
        refine wpAnyH_one (i := 8) (by kernel_rfl) rfl (by kernel_rfl) ?_
        intro K hK; unfold Oper.wp; go_simp
        have hal : Below wo.heap.size wo (wd.alloc (.cells #[.int .u8 34] 5)) := HBD.out.alloc HBD.out.size _
        refine hK _ _ hal (fun _ => ?_); clear hK K
        have hcv : (convert 42 9 (.slice (some ⟨wd.heap.size, 0, none⟩) 1 1)).run Try.prog (wd.alloc (.cells #[.int .u8 34] 5)) = .ok (.string ⟨#[34]⟩) (wd.alloc (.cells #[.int .u8 34] 5)) := conv_one 34 wd
        have HAL := Lib.hid hal; clear hal
        generalize wd.alloc (.cells #[.int .u8 34] 5) = we at *
        refine wpAnyH_one (i := 9) (by kernel_rfl) rfl (by kernel_rfl) ?_
        intro K hK; unfold Oper.wp; go_simp
        refine hK _ _ HAL.out (fun _ => ?_); clear hK K hcv
        refine wpAnyH_one (i := 10) (by kernel_rfl) rfl (by kernel_rfl) ?_
        intro K hK; unfold Oper.wp; go_simp
        refine hK _ _ HAL.out (fun _ => ?_); clear hK K
        refine wpAnyH_one (i := 11) (by kernel_rfl) rfl (by kernel_rfl) ?_
        intro K hK; unfold Oper.wp; go_simp
        refine hK _ _ HAL.out (fun _ => ?_); clear hK K
        refine wpAnyH_done (by kernel_rfl) ?_ _
        refine Only.mk_ ?_
        obtain ⟨K2, hK2⟩ : ∃ K2 : ByteArray, K1 ++ x ++ ⟨#[61]⟩ ++ ⟨#[34]⟩ = K2 := ⟨_, rfl⟩
        have hK2s : K2.size ≤ 12000 := by rw [← hK2, ByteArray.size_append, ByteArray.size_append, ByteArray.size_append]; show K1.size + x.size + 1 + 1 ≤ _; omega
        rw [hK2]
        have hK2d : K2.data.toList = T.data.toList ++ (if k = 0 then [] else [44]) ++ x.data.toList ++ [61, 34] := by
          rw [← hK2, ← hK1, if_pos HK0.out]; simp
        have HK2 := Lib.hid hK2d; clear hK2 hK1 hK2d z1 z2 z3 z4 z5
        have HBE := Lib.hid (below_step HB.out HAL.out); clear HAL HBD
        go_wp2_with fail
        go_loopw [3, 5, 6] (fun t j _ ws => ∃ (m : Nat) (S : ByteArray), m ≤ y.size ∧ j = .int .i64 m ∧ t = .string S ∧ S.data.toList = K2.data.toList ++ La.esc (y.data.toList.take m) ∧ Below w.heap.size w ws) (fun _ j _ _ => y.size - (intOf j).toNat)
        case atStart => exact ⟨0, K2, Nat.zero_le _, rfl, rfl, by simp [La.esc], HBE.out⟩
        case round =>
          obtain ⟨m, S, hm, rfl, rfl, hS, hbs⟩ := hrel
          have hSs : S.size ≤ 13000 := by
            rw [Lib.size_eq, hS, List.length_append, ← Lib.size_eq]
            have := La.esc_length (y.data.toList.take m)
            have := List.length_take_le m y.data.toList
            omega
          have y0 := HC1.out _ hbs
          have HS := Lib.hid hS; have HBS := Lib.hid hbs; clear hS hbs
          have z1 : ¬ 9223372036854775807 < S.size + 1 := by omega
          have z2 : S.size ≤ 9223372036854775806 := by omega
          have z3 : S.size + 1 ≤ 9223372036854775806 := by omega
          have z4 : ¬ 9223372036854775807 < S.size + 1 + 1 := by omega
          by_cases hml : m < y.size
          · have htk := La.take_byte y m hml
            have hes := La.esc_snoc (y.data.toList.take m) y[m]
            rw [← htk] at hes
            have HES := Lib.hid hes; clear hes htk
            have j1 : (m : Int) < (y.size : Int) := by omega
            have j0 : (0 : Int) ≤ (m : Int) := by omega
            generalize hz : y[m] = z at *
            have hsz1 : (wr.alloc (.cells #[.int .u8 92] 5)).heap.size = wr.heap.size + 1 := by simp
            have hcv1 : (convert 42 9 (.slice (some ⟨wr.heap.size, 0, none⟩) 1 1)).run Try.prog (wr.alloc (.cells #[.int .u8 92] 5)) = .ok (.string ⟨#[92]⟩) (wr.alloc (.cells #[.int .u8 92] 5)) := conv_one 92 wr
            have hcv2 := conv_one z (wr.alloc (.cells #[.int .u8 92] 5))
            rw [hsz1] at hcv2
            have hcv3 := conv_one z wr
            clear hsz1
            by_cases hq : z = 34 ∨ z = 92
            · have hd : (((z.toNat : Nat) : Int) == 34) = true ∨ ((((z.toNat : Nat) : Int) == 34) = false ∧ (((z.toNat : Nat) : Int) == 92) = true) := by
                rcases hq with h | h
                · left; rw [h]; rfl
                · right; rw [h]; exact ⟨rfl, rfl⟩
              have HQ := Lib.hid hq; clear hq
              rcases hd with q1 | ⟨q1, q2⟩
              all_goals
                go_wp2_with fail
                go_roundw
                case rel =>
                  refine ⟨m + 1, S ++ ⟨#[92]⟩ ++ ⟨#[z]⟩, by omega, by go_num, rfl, ?_, (HBS.out.alloc HBS.out.size _).alloc (HBS.out.alloc HBS.out.size _).size _⟩
                  rw [Num.app_list, Num.app_list, HS.out, HES.out, if_pos HQ.out]; simp
                case measure => simp [intOf]; omega
            · have q1 : (((z.toNat : Nat) : Int) == 34) = false := by
                simp only [beq_eq_false_iff_ne]; intro e; exact hq (.inl (UInt8.toNat_inj.1 (by have : (34 : UInt8).toNat = 34 := rfl; omega)))
              have q2 : (((z.toNat : Nat) : Int) == 92) = false := by
                simp only [beq_eq_false_iff_ne]; intro e; exact hq (.inr (UInt8.toNat_inj.1 (by have : (92 : UInt8).toNat = 92 := rfl; omega)))
              have HQ := Lib.hid hq; clear hq
              go_wp2_with fail
              go_roundw
              case rel =>
                refine ⟨m + 1, S ++ ⟨#[z]⟩, by omega, by go_num, rfl, ?_, HBS.out.alloc HBS.out.size _⟩
                rw [Num.app_list, HS.out, HES.out, if_neg HQ.out]; simp
              case measure => simp [intOf]; omega
          · have hcv1 : (convert 42 9 (.slice (some ⟨wr.heap.size, 0, none⟩) 1 1)).run Try.prog (wr.alloc (.cells #[.int .u8 34] 5)) = .ok (.string ⟨#[34]⟩) (wr.alloc (.cells #[.int .u8 34] 5)) := conv_one 34 wr
            have htk : y.data.toList.take m = y.data.toList := List.take_of_length_le (by rw [← Lib.size_eq]; omega)
            have hdt : (S ++ ⟨#[34]⟩).data.toList = La.shown f (k + 1) := by
              rw [Num.app_list, HS.out, htk, HSN.out, HK2.out]
            have HDT := Lib.hid hdt; clear hdt htk
            go_wp2_with fail
            go_roundw
            case rel => exact ⟨k + 1, S ++ ⟨#[34]⟩, by omega, by go_num, rfl, HDT.out, HBS.out.alloc HBS.out.size _⟩
            case measure => simp [intOf]; omega
      · have d0 : decide ((0 : Int) < (k : Int)) = true := by simp; omega
        have d0n : decide (0 < k) = true := by simp; omega
        have z0 : ¬ 9223372036854775807 < T.size + 1 := by omega
        have z0' : ¬ 9223372036854775807 < T.size + (⟨#[44]⟩ : ByteArray).size := by show ¬ _ < T.size + 1; omega
        have HK0 := Lib.hid k0; clear k0
        go_wp2_with fail
        obtain ⟨K1, hK1⟩ : ∃ K1 : ByteArray, (T ++ ⟨#[44]⟩) = K1 := ⟨_, rfl⟩
        have hK1s : K1.size ≤ 11001 := by rw [← hK1]; rw [ByteArray.size_append]; show T.size + 1 ≤ _; omega
        rw [hK1]
        refine plain_held (fun U => Below wo.heap.size wo U) (by kernel_rfl) ?_
        have hbd : Below wo.heap.size wo wo.drew := Below.drew (Below.refl _ _)
        generalize wo.drew = wd at *
        have HBD := Lib.hid hbd; clear hbd
        have z1 : ¬ 9223372036854775807 < K1.size + x.size := by omega
        have z2 : K1.size + x.size ≤ 9223372036854775806 := by omega
        have z3 : K1.size + x.size ≤ 9223372036854775805 := by omega
        have z4 : K1.size + x.size + 1 ≤ 9223372036854775806 := by omega
        have z5 : ¬ 9223372036854775807 < K1.size + x.size + 1 + 1 := by omega
        refine wpAnyH_pickQ (by kernel_rfl) Only.panic Only.keepsIn (w := wd) HBD.out [0, 1, 2, 3, 4, 5, 6, 7] 4 _ _ (by kernel_rfl) ?_
        refine PickQ.value (d := some 17) (.string K1) rfl rfl (by kernel_rfl) (fun U hU => (by go_simp)) ?_
        refine PickQ.value (d := some 18) (.slice (some ad) n c) rfl rfl (by kernel_rfl) (fun U hU => (by go_simp)) ?_
        refine PickQ.value (d := some 19) (.int .i64 k) rfl rfl (by kernel_rfl) (fun U hU => (by go_simp)) ?_
        refine PickQ.value (d := some 20) (.pointer (some (ad.add (k * 2)))) rfl rfl (by kernel_rfl) (fun U hU => (by go_simp)) ?_
        refine PickQ.value (d := some 21) (.pointer (some (ad.add (k * 2)))) rfl rfl (by kernel_rfl) (fun U hU => (by go_simp)) ?_
        refine PickQ.value (d := some 22) (.string x) rfl rfl (by kernel_rfl) (fun U hU => (by have := HC0.out U hU; go_simp)) ?_
        refine PickQ.value (d := some 23) (.string (K1 ++ x)) rfl rfl (by kernel_rfl) (fun U hU => (by go_simp)) ?_
        refine PickQ.value (d := some 24) (.string (K1 ++ x ++ ⟨#[61]⟩)) rfl rfl (by kernel_rfl) (fun U hU => (by go_simp)) ?_
        simp only [PickQ, Act.put, List.setIfInBounds_toArray, List.set_cons_zero, List.set_cons_succ]
        refine wpAnyH_one (i := 8) (by kernel_rfl) rfl (by kernel_rfl) ?_
        intro K hK; unfold Oper.wp; go_simp
        have hal : Below wo.heap.size wo (wd.alloc (.cells #[.int .u8 34] 5)) := HBD.out.alloc HBD.out.size _
        refine hK _ _ hal (fun _ => ?_); clear hK K
        have hcv : (convert 42 9 (.slice (some ⟨wd.heap.size, 0, none⟩) 1 1)).run Try.prog (wd.alloc (.cells #[.int .u8 34] 5)) = .ok (.string ⟨#[34]⟩) (wd.alloc (.cells #[.int .u8 34] 5)) := conv_one 34 wd
        have HAL := Lib.hid hal; clear hal
        generalize wd.alloc (.cells #[.int .u8 34] 5) = we at *
        refine wpAnyH_one (i := 9) (by kernel_rfl) rfl (by kernel_rfl) ?_
        intro K hK; unfold Oper.wp; go_simp
        refine hK _ _ HAL.out (fun _ => ?_); clear hK K hcv
        refine wpAnyH_one (i := 10) (by kernel_rfl) rfl (by kernel_rfl) ?_
        intro K hK; unfold Oper.wp; go_simp
        refine hK _ _ HAL.out (fun _ => ?_); clear hK K
        refine wpAnyH_one (i := 11) (by kernel_rfl) rfl (by kernel_rfl) ?_
        intro K hK; unfold Oper.wp; go_simp
        refine hK _ _ HAL.out (fun _ => ?_); clear hK K
        refine wpAnyH_done (by kernel_rfl) ?_ _
        refine Only.mk_ ?_
        obtain ⟨K2, hK2⟩ : ∃ K2 : ByteArray, K1 ++ x ++ ⟨#[61]⟩ ++ ⟨#[34]⟩ = K2 := ⟨_, rfl⟩
        have hK2s : K2.size ≤ 12000 := by rw [← hK2, ByteArray.size_append, ByteArray.size_append, ByteArray.size_append]; show K1.size + x.size + 1 + 1 ≤ _; omega
        rw [hK2]
        have hK2d : K2.data.toList = T.data.toList ++ (if k = 0 then [] else [44]) ++ x.data.toList ++ [61, 34] := by
          rw [← hK2, ← hK1, if_neg HK0.out]; simp
        have HK2 := Lib.hid hK2d; clear hK2 hK1 hK2d z1 z2 z3 z4 z5
        have HBE := Lib.hid (below_step HB.out HAL.out); clear HAL HBD
        go_wp2_with fail
        go_loopw [3, 5, 6] (fun t j _ ws => ∃ (m : Nat) (S : ByteArray), m ≤ y.size ∧ j = .int .i64 m ∧ t = .string S ∧ S.data.toList = K2.data.toList ++ La.esc (y.data.toList.take m) ∧ Below w.heap.size w ws) (fun _ j _ _ => y.size - (intOf j).toNat)
        case atStart => exact ⟨0, K2, Nat.zero_le _, rfl, rfl, by simp [La.esc], HBE.out⟩
        case round =>
          obtain ⟨m, S, hm, rfl, rfl, hS, hbs⟩ := hrel
          have hSs : S.size ≤ 13000 := by
            rw [Lib.size_eq, hS, List.length_append, ← Lib.size_eq]
            have := La.esc_length (y.data.toList.take m)
            have := List.length_take_le m y.data.toList
            omega
          have y0 := HC1.out _ hbs
          have HS := Lib.hid hS; have HBS := Lib.hid hbs; clear hS hbs
          have z1 : ¬ 9223372036854775807 < S.size + 1 := by omega
          have z2 : S.size ≤ 9223372036854775806 := by omega
          have z3 : S.size + 1 ≤ 9223372036854775806 := by omega
          have z4 : ¬ 9223372036854775807 < S.size + 1 + 1 := by omega
          by_cases hml : m < y.size
          · have htk := La.take_byte y m hml
            have hes := La.esc_snoc (y.data.toList.take m) y[m]
            rw [← htk] at hes
            have HES := Lib.hid hes; clear hes htk
            have j1 : (m : Int) < (y.size : Int) := by omega
            have j0 : (0 : Int) ≤ (m : Int) := by omega
            generalize hz : y[m] = z at *
            have hsz1 : (wr.alloc (.cells #[.int .u8 92] 5)).heap.size = wr.heap.size + 1 := by simp
            have hcv1 : (convert 42 9 (.slice (some ⟨wr.heap.size, 0, none⟩) 1 1)).run Try.prog (wr.alloc (.cells #[.int .u8 92] 5)) = .ok (.string ⟨#[92]⟩) (wr.alloc (.cells #[.int .u8 92] 5)) := conv_one 92 wr
            have hcv2 := conv_one z (wr.alloc (.cells #[.int .u8 92] 5))
            rw [hsz1] at hcv2
            have hcv3 := conv_one z wr
            clear hsz1
            by_cases hq : z = 34 ∨ z = 92
            · have hd : (((z.toNat : Nat) : Int) == 34) = true ∨ ((((z.toNat : Nat) : Int) == 34) = false ∧ (((z.toNat : Nat) : Int) == 92) = true) := by
                rcases hq with h | h
                · left; rw [h]; rfl
                · right; rw [h]; exact ⟨rfl, rfl⟩
              have HQ := Lib.hid hq; clear hq
              rcases hd with q1 | ⟨q1, q2⟩
              all_goals
                go_wp2_with fail
                go_roundw
                case rel =>
                  refine ⟨m + 1, S ++ ⟨#[92]⟩ ++ ⟨#[z]⟩, by omega, by go_num, rfl, ?_, (HBS.out.alloc HBS.out.size _).alloc (HBS.out.alloc HBS.out.size _).size _⟩
                  rw [Num.app_list, Num.app_list, HS.out, HES.out, if_pos HQ.out]; simp
                case measure => simp [intOf]; omega
            · have q1 : (((z.toNat : Nat) : Int) == 34) = false := by
                simp only [beq_eq_false_iff_ne]; intro e; exact hq (.inl (UInt8.toNat_inj.1 (by have : (34 : UInt8).toNat = 34 := rfl; omega)))
              have q2 : (((z.toNat : Nat) : Int) == 92) = false := by
                simp only [beq_eq_false_iff_ne]; intro e; exact hq (.inr (UInt8.toNat_inj.1 (by have : (92 : UInt8).toNat = 92 := rfl; omega)))
              have HQ := Lib.hid hq; clear hq
              go_wp2_with fail
              go_roundw
              case rel =>
                refine ⟨m + 1, S ++ ⟨#[z]⟩, by omega, by go_num, rfl, ?_, HBS.out.alloc HBS.out.size _⟩
                rw [Num.app_list, HS.out, HES.out, if_neg HQ.out]; simp
              case measure => simp [intOf]; omega
          · have hcv1 : (convert 42 9 (.slice (some ⟨wr.heap.size, 0, none⟩) 1 1)).run Try.prog (wr.alloc (.cells #[.int .u8 34] 5)) = .ok (.string ⟨#[34]⟩) (wr.alloc (.cells #[.int .u8 34] 5)) := conv_one 34 wr
            have htk : y.data.toList.take m = y.data.toList := List.take_of_length_le (by rw [← Lib.size_eq]; omega)
            have hdt : (S ++ ⟨#[34]⟩).data.toList = La.shown f (k + 1) := by
              rw [Num.app_list, HS.out, htk, HSN.out, HK2.out]
            have HDT := Lib.hid hdt; clear hdt htk
            go_wp2_with fail
            go_roundw
            case rel => exact ⟨k + 1, S ++ ⟨#[34]⟩, by omega, by go_num, rfl, HDT.out, HBS.out.alloc HBS.out.size _⟩
            case measure => simp [intOf]; omega
    · obtain rfl : k = n := by omega
      have hf : T ++ ⟨#[125]⟩ = La.showB f k := by
        apply ByteArray.ext; apply Array.toList_inj.1
        rw [Num.app_list, HT.out]; simp [La.showB]
      have z9 : ¬ 9223372036854775807 < T.size + 1 := by omega
      have HF := Lib.hid hf; clear hf
      go_wp2_with fail
      go_ret
      rw [HF.out]
      exact ⟨rfl, HB.out⟩
end Go.Proofs.Ytieoncjdhileoaa
