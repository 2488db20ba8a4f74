/-
  What Put of the reference comes to.
-/
import Derived.Test.YtfgcgjogaaofdaaGreatDoorChV
import Derived.Test.YtfgcgjogaaofdaaGreatDoorStJ
import Derived.Test.YtfgcgjogaaofdaaGreatDoorVaPD
import Derived.Test.YtfgcgjogaaofdaaGreatDoorRefB
namespace Go.Proofs.YtfgcgjogaaofdaaGreatDoor
open Go.RowKit
set_option maxRecDepth 100000 in
set_option maxHeartbeats 1000000 in
theorem Sorted0_any (A : Option Addr) (n c : Nat) (hn : n ≤ 1000000) (s : Nat → Sam) (w : World) (hA : Row 2 (sx s) w A n) :
    Calls Tryz.prog 14 #[.slice A n c] w fun e w' => e = .returned (.bool (Ma.rising s n)) ∧ DrewOf w w' := by
  have HA := Lib.hid hA; clear hA
  go_enter Tryz.func14, Tryz.ntmps14
  go_wp2_with fail
  go_loopw [3] (fun i wr => ∃ (k : Nat), 1 ≤ k ∧ i = .int .i64 k ∧ (∀ j, j + 1 < k → (s j).t < (s (j + 1)).t) ∧ DrewOf w wr) (fun i _ => n - (intOf i).toNat)
  case atStart => exact ⟨1, Nat.le_refl _, rfl, fun j hj => by omega, ⟨0, rfl⟩⟩
  case round =>
    obtain ⟨k, hk, rfl, hall, q, rfl⟩ := hrel
    have HE := Lib.hid hall; clear hall
    by_cases hlt : k < n
    · obtain ⟨ad, rfl, c0, -⟩ := HA.out.at_ (Below.refl _ _) hlt
      obtain ⟨ad2, e, c1, -⟩ := HA.out.at_ (Below.refl _ _) (show k - 1 < n by omega)
      cases e
      have e0 := c0 (by omega)
      have e1 := c1 (by omega)
      have x0 : sx s k 0 = .int .i64 (s k).t := rfl
      have x1 : sx s (k - 1) 0 = .int .i64 (s (k - 1)).t := rfl
      rw [x0] at e0; rw [x1] at e1
      have i1 : (k : Int) < (n : Int) := by omega
      have i0 : (0 : Int) ≤ (k : Int) := by omega
      have i2 : IntKind.i64.wrap ((k : Int) - 1) = ((k - 1 : Nat) : Int) := by rw [IntWalk.i64_in _ (by omega)]; omega
      have i3 : wrap64 ((k : Int) - 1) = ((k - 1 : Nat) : Int) := by rw [IntWalk.wrap64_in _ (by omega)]; omega
      have i4 : ((k - 1 : Nat) : Int) < (n : Int) := by omega
      have i5 : (0 : Int) ≤ ((k - 1 : Nat) : Int) := by omega
      have HK : Hid (k - 1 + 1 = k) := Lib.hid (by omega)
      clear c0 c1 x0 x1
      by_cases hf : (s (k - 1)).t < (s k).t
      · have d0 : decide ((s k).t ≤ (s (k - 1)).t) = false := by simp; omega
        have HF := Lib.hid hf; clear hf
        go_wp2_with fail
        go_quiet (fail)
        go_wp2_with fail
        go_roundw
        case rel => exact ⟨k + 1, by omega, by go_num, fun j hj => (by
          rcases Nat.lt_or_ge (j + 1) k with h1 | h1
          · exact HE.out j h1
          · obtain rfl : j = k - 1 := by omega
            rw [HK.out]; exact HF.out), _, rfl⟩
        case measure => simp [intOf]; omega
      · have d0 : decide ((s k).t ≤ (s (k - 1)).t) = true := by simp; omega
        have HR : Hid (Ma.rising s n = false) := Lib.hid (Ma.rising_no (i := k - 1) (by omega) (by rw [show k - 1 + 1 = k from by omega]; exact hf))
        clear hf
        go_wp2_with fail
        go_quiet (fail)
        go_wp2_with fail
        go_ret
        exact ⟨by rw [HR.out]; rfl, _, World.drewN_drewN _ _ _⟩
    · have HR : Hid (Ma.rising s n = true) := Lib.hid (Ma.rising_yes (fun i hi => HE.out i (by omega)))
      have i1 : ¬ (k : Int) < (n : Int) := by omega
      go_wp2_with fail
      go_ret
      exact ⟨by rw [HR.out]; rfl, _, rfl⟩
theorem hx_of {w W : World} {A : Option Addr} {n : Nat} {t : Nat → Int} {v : Nat → Nat} {k : Nat} {ad : Addr} (hA : Row 2 (sx (Ch.sm t v)) w A n) (hb : Below w.heap.size w W) (hk : k < n) (e : A = some ad) : W.cell? (ad.add (k * 2)) = some (.int .i64 (t k)) ∧ W.cell? ⟨(ad.add (k * 2)).block, (ad.add (k * 2)).off + 1, none⟩ = some (.int .u64 (v k : Int)) := by
  obtain ⟨a2, e2, c0, c1⟩ := hA.at_ hb hk
  rw [e] at e2
  cases e2
  exact ⟨c0 (by omega), c1 1 (by omega) (by omega)⟩
set_option maxRecDepth 100000 in
set_option maxHeartbeats 4000000 in
theorem rPut1_any (A : Option Addr) (n c : Nat) (hn : n ≤ 200) (t : Nat → Int) (v : Nat → Nat) (ht : ∀ i, i < n → St.inR (t i)) (hv : ∀ i, i < n → v i < 18446744073709551616) (w : World) (hA : Row 2 (sx (Ch.sm t v)) w A n) (hs : Ma.rising (Ch.sm t v) n = true) :
    Calls Tryz.prog 6 #[.slice A n c, .int .i64 1] w fun e w' => e = .returned (.tuple #[.string (Ch.full 1 t v n), .int .i64 0]) ∧ Below w.heap.size w w' := by
  have HA := Lib.hid hA; have HIN := Lib.hid ht; have HIV := Lib.hid hv
  obtain ⟨i0, hi, hz0, hz1, hz2⟩ := info_parts Tryz.info_i64
  obtain ⟨j0, hj, hy0, hy1, hy2⟩ := info_parts Tryz.info_u64
  have hso := Sorted0_any A n c (by omega) (Ch.sm t v) w hA
  rw [hs] at hso
  have HSO := Lib.hid hso
  have d0 : decide ((200 : Int) < (n : Int)) = false := by simp; omega
  have hu := Ch.u_nat n (by omega)
  have HSM := Lib.hid (fun W => rSmall_any n (Lib.hid (by omega)) W)
  have HWD := Lib.hid (fun W => rWide_any n (Lib.hid (by omega)) W)
  clear hA hs hso ht hv
  go_enter Tryz.func6, Tryz.ntmps6
  go_wp2_with fail
  refine HSO.out.mono ?_; rintro e w1 ⟨rfl, hd⟩
  have HB1 := Lib.hid hd.below; clear hd
  go_wp2_with fail
  refine (HSM.out _).mono ?_; rintro e w2 ⟨rfl, hb2⟩
  have HB2 := Lib.hid (below_step HB1.out hb2); clear hb2
  go_wp2_with fail
  refine (HWD.out _).mono ?_; rintro e w3 ⟨rfl, hb3⟩
  have HB3 := Lib.hid (below_step HB2.out hb3); clear hb3
  clear HB1 HB2 HSO HSM HWD
  go_wp2_with fail
  go_loopw [7, 8, 9, 10, 11] (fun s ts vs ls i wr => ∃ (k : Nat) (A1 : Option Addr) (c1 : Nat) (A2 : Option Addr) (c2 : Nat), k ≤ n ∧ s = .string (Num.wideB n ++ Ch.cat (Ch.one1 t v) 0 k) ∧ ts = .slice A1 k c1 ∧ vs = .slice A2 k c2 ∧ ls = .int .i64 (Ch.last t k) ∧ i = .int .i64 k ∧
    wr.ownsRow w.heap.size 2 1 (.slice A1 k c1) k (intVals ((List.range k).map t)) ∧ wr.ownsRow w.heap.size 28 1 (.slice A2 k c2) k (natVals ((List.range k).map v)) ∧ Below w.heap.size w wr) (fun _ _ _ _ i _ => n - (intOf i).toNat)
  case atStart => exact ⟨0, none, 0, none, 0, by omega, by simp [Ch.cat], rfl, rfl, rfl, rfl, World.ownsRow_nil _ _ _ _, World.ownsRow_nil _ _ _ _, HB3.out⟩
  case round =>
    obtain ⟨k, A1, c1, A2, c2, hk, rfl, rfl, rfl, rfl, rfl, ho1, ho2, hb⟩ := hrel
    have HO1 := Lib.hid ho1; have HO2 := Lib.hid ho2; have HB := Lib.hid hb; clear ho1 ho2 hb
    have hbs := HB.out.size
    by_cases hlt : k < n
    · obtain ⟨ad, rfl, -, -⟩ := HA.out.at_ HB.out hlt
      have hx := fun W hb => hx_of (W := W) HA.out hb hlt rfl
      have i1 : (k : Int) < (n : Int) := by omega
      have i2 : (0 : Int) ≤ (k : Int) := by omega
      have HN1 := Lib.hid (intVals_snoc t k)
      have HN2 := Lib.hid (natVals_snoc v k)
      have hlast : Ch.last t (k + 1) = t k := by unfold Ch.last; rw [if_neg (by omega), Nat.add_sub_cancel]
      have HLS := Lib.hid hlast
      have HX := Lib.hid hx
      have x0 := (hx wr HB.out).1
      have hown1 := HO1.out; have hown2 := HO2.out
      have hcat := Ch.cat_snoc (Ch.one1 t v) k 0
      rw [Nat.zero_add] at hcat
      have hcs := (Ch.cat_size (Ch.one1 t v) 16 16 (Ch.one1_size t v) k 0).2
      have hfs := Num.wideB_size n
      have hps : (Num.wideB n ++ Ch.cat (Ch.one1 t v) 0 k).size ≤ 10 + 18 * k := by rw [ByteArray.size_append]; omega
      have HPN : Hid (Num.wideB n ++ Ch.cat (Ch.one1 t v) 0 (k + 1) = (Num.wideB n ++ Ch.cat (Ch.one1 t v) 0 k) ++ Ch.one1 t v k) := Lib.hid (by rw [hcat, ByteArray.append_assoc])
      have ho : Ch.one1 t v k = Num.wideB (Ch.u (t k)) ++ Num.wideB (v k) := rfl
      have e1 := Num.wideB_size (Ch.u (t k))
      have e2 := Num.wideB_size (v k)
      have hut := Ch.u_wrap (t k)
      have HC1 := Lib.hid (fun W => rWide_any (Ch.u (t k)) (Lib.hid (Ch.u_lt (t k))) W)
      have HC3 := Lib.hid (fun W => rWide_any (v k) (Lib.hid (HIV.out k hlt)) W)
      rw [ho] at HPN
      generalize Num.wideB (Ch.u (t k)) = a1 at *
      generalize Num.wideB (v k) = a2 at *
      generalize Ch.u (t k) = ut at *
      generalize (Num.wideB n ++ Ch.cat (Ch.one1 t v) 0 k) = ps at *
      have z1 : ¬ 9223372036854775807 < ps.size + a1.size := by omega
      have z2 : (ps ++ a1).size = ps.size + a1.size := ByteArray.size_append ..
      have z3 : ¬ 9223372036854775807 < (ps ++ a1).size + a2.size := by omega
      have z4 : ¬ 9223372036854775807 < ps.size + a1.size + a2.size := by omega
      have HPA : Hid ((ps ++ a1) ++ a2 = ps ++ (a1 ++ a2)) := Lib.hid (ByteArray.append_assoc ..)
      clear hcat hcs hfs hps e1 e2 ho
      generalize t k = tk at *
      generalize v k = vk at *
      have hk1 : ∀ w6, (wr.alloc (.cells #[.int .i64 tk] 2)).grownBy w6 (Value.slice A1 k c1).ownBlock → Below w.heap.size w w6 := fun w6 hg6 =>
        (HB.out.alloc hbs _).grown hg6 (by simp; omega) (fun r hr => ((hown1.alloc (.cells #[.int .i64 tk] 2)).lt r hr).1)
      have hk2 : ∀ w6, (wr.alloc (.cells #[.int .i64 tk] 2)).grownBy w6 (Value.slice A1 k c1).ownBlock → w6.ownsRow w.heap.size 28 1 (.slice A2 k c2) k (natVals ((List.range k).map v)) := fun w6 hg6 =>
        (hown2.alloc (.cells #[.int .i64 tk] 2)).kept hg6 (own_two_ne (hown2.alloc (.cells #[.int .i64 tk] 2)) (hown1.alloc (.cells #[.int .i64 tk] 2)) (by decide))
      have hk3 : ∀ w6 w8, Below w.heap.size w w6 → w6.ownsRow w.heap.size 28 1 (.slice A2 k c2) k (natVals ((List.range k).map v)) → (w6.alloc (.cells #[.int .u64 (vk : Int)] 28)).grownBy w8 (Value.slice A2 k c2).ownBlock → Below w.heap.size w w8 := fun w6 w8 hb6 h6 hg8 =>
        (hb6.alloc hb6.size _).grown hg8 (by have := hb6.size; simp; omega) (fun r hr => ((h6.alloc (.cells #[.int .u64 (vk : Int)] 28)).lt r hr).1)
      have hlen : ∀ w6, (wr.alloc (.cells #[.int .i64 tk] 2)).grownBy w6 (Value.slice A1 k c1).ownBlock → w.heap.size ≤ w6.heap.size := fun w6 hg6 => (hk1 w6 hg6).size
      clear hx
      go_wp2_with (at_builtin; first
        | (refine wpList_append_own _ rfl _ _ 45 rfl w.heap.size 2 i0 (.int .i64 0) 1 8 Tryz.underlying45 hi hz0 hz1 hz2 rfl (by decide) _ _ _ rfl (hown1.alloc _) ⟨wr.heap.size, 0, none⟩ 1 1 [.int .i64 tk] rfl rfl (cell_one_new _ _ _) (by simp [Value.oneCell']) (by unfold maxLen; omega) (by omega) (by simp; omega) ?_; intro v6 w6 hown6 hg6 _; obtain ⟨A6, c6, rfl⟩ := own_form hown6; have hb6 := hk1 _ hg6; have q1 := (HX.out _ hb6).2; have hp2 := hk2 _ hg6; have hz6 := hlen _ hg6)
        | (go_must (refine wpList_append_own _ rfl _ _ 46 rfl w.heap.size 28 j0 (.int .u64 0) 1 8 Tryz.underlying46 hj hy0 hy1 hy2 rfl (by decide) _ _ _ rfl (hp2.alloc _) ⟨w6.heap.size, 0, none⟩ 1 1 [.int .u64 (vk : Int)] rfl rfl (cell_one_new _ _ _) (by simp [Value.oneCell']) (by unfold maxLen; omega) (by omega) (by simp; omega) ?_); intro v8 w8 hown8 hg8 _; obtain ⟨A8, c8, rfl⟩ := own_form hown8; have hb8 := hk3 _ _ hb6 hp2 hg8; have r0 := (HX.out _ hb8).1))
      have hrow1 : w8.ownsRow w.heap.size 2 1 (.slice A6 (k + 1) c6) (k + 1) (intVals ((List.range (k + 1)).map t)) := by
        rw [HN1.out]
        exact (hown6.alloc _).kept hg8 (own_two_ne (hown6.alloc (.cells #[.int .u64 (vk : Int)] 28)) (hp2.alloc (.cells #[.int .u64 (vk : Int)] 28)) (by decide))
      have hrow2 : w8.ownsRow w.heap.size 28 1 (.slice A8 (k + 1) c8) (k + 1) (natVals ((List.range (k + 1)).map v)) := by
        rw [HN2.out]
        exact hown8
      have HROW1 := Lib.hid hrow1; have HROW2 := Lib.hid hrow2; have HB8 := Lib.hid hb8
      clear hrow1 hrow2 hb8 r0 hown8 hg8 hown6 hg6 hp2 hz6 q1 hb6 x0 hown1 hown2 hk1 hk2 hk3 hlen
      have HXU : Hid (∀ U, Below w8.heap.size w8 U → U.cell? (ad.add (k * 2)) = some (.int .i64 tk) ∧ U.cell? ⟨(ad.add (k * 2)).block, (ad.add (k * 2)).off + 1, none⟩ = some (.int .u64 (vk : Int))) := Lib.hid (fun U hU => HX.out U (HB8.out.trans (hU.mono HB8.out.size)))
      refine plain_held (fun U => Below w8.heap.size w8 U) (by kernel_rfl) ?_
      have HD : Hid (Below w8.heap.size w8 w8.drew) := Lib.hid (Below.refl _ _).drew
      generalize w8.drew = wd at HD ⊢
      refine wpAnyH_pickQ (S := fun U => Below w8.heap.size w8 U) (by kernel_rfl) Only.panic Only.keepsIn (w := wd) HD.out [0, 1, 2, 3, 4, 5, 6, 9, 10, 11, 12, 13] 5 _ _ (by kernel_rfl) ?_
      refine PickQ.value (d := some 61) (.string ps) rfl rfl (by kernel_rfl) (fun U hU => (by go_simp)) ?_
      refine PickQ.value (d := some 62) (.slice (some ad) n c) rfl rfl (by kernel_rfl) (fun U hU => (by go_simp)) ?_
      refine PickQ.value (d := some 63) (.int .i64 (k : Int)) rfl rfl (by kernel_rfl) (fun U hU => (by go_simp)) ?_
      refine PickQ.value (d := some 64) (.pointer (some (ad.add (k * 2)))) rfl rfl (by kernel_rfl) (fun U hU => (by go_simp)) ?_
      refine PickQ.value (d := some 65) (.pointer (some (ad.add (k * 2)))) rfl rfl (by kernel_rfl) (fun U hU => (by go_simp)) ?_
      refine PickQ.value (d := some 66) (.int .i64 tk) rfl rfl (by kernel_rfl) (fun U hU => (by have q := (HXU.out U hU).1; go_simp)) ?_
      refine PickQ.value (d := some 67) (.int .u64 (ut : Int)) rfl rfl (by kernel_rfl) (fun U hU => (by go_simp)) ?_
      refine PickQ.value (d := some 70) (.slice (some ad) n c) rfl rfl (by kernel_rfl) (fun U hU => (by go_simp)) ?_
      refine PickQ.value (d := some 71) (.int .i64 (k : Int)) rfl rfl (by kernel_rfl) (fun U hU => (by go_simp)) ?_
      refine PickQ.value (d := some 72) (.pointer (some (ad.add (k * 2)))) rfl rfl (by kernel_rfl) (fun U hU => (by go_simp)) ?_
      refine PickQ.value (d := some 73) (.pointer (some ⟨(ad.add (k * 2)).block, (ad.add (k * 2)).off + 1, none⟩)) rfl rfl (by kernel_rfl) (fun U hU => (by go_simp)) ?_
      refine PickQ.value (d := some 74) (.int .u64 (vk : Int)) rfl rfl (by kernel_rfl) (fun U hU => (by have q := (HXU.out U hU).2; go_simp)) ?_
      simp only [PickQ, Act.put, List.setIfInBounds_toArray]
      refine wpAnyH_one (i := 7) (by kernel_rfl) rfl (by kernel_rfl) ?_
      intro K hK
      unfold Oper.wp
      go_simp
      refine (HC1.out _).mono ?_; rintro e wa ⟨rfl, hba⟩
      have HDa := Lib.hid (below_step HD.out hba); clear hba
      refine hK _ _ HDa.out (fun _ => ?_)
      clear hK K
      refine wpAnyH_pickQ (S := fun U => Below w8.heap.size w8 U) (by kernel_rfl) Only.panic Only.keepsIn (w := wa) HDa.out [8] 3 _ _ (by kernel_rfl) ?_
      refine PickQ.value (d := some 69) (.string (ps ++ a1)) rfl rfl (by kernel_rfl) (fun U hU => (by go_simp)) ?_
      simp only [PickQ, Act.put, List.setIfInBounds_toArray, List.set_cons_zero, List.set_cons_succ]
      refine wpAnyH_one (i := 14) (by kernel_rfl) rfl (by kernel_rfl) ?_
      intro K hK
      unfold Oper.wp
      go_simp
      refine (HC3.out _).mono ?_; rintro e wb ⟨rfl, hbb⟩
      have HDb := Lib.hid (below_step HDa.out hbb); clear hbb
      refine hK _ _ HDb.out (fun _ => ?_)
      clear hK K
      refine wpAnyH_one (i := 15) (by kernel_rfl) rfl (by kernel_rfl) ?_
      intro K hK
      unfold Oper.wp
      go_simp
      refine hK _ _ HDb.out (fun _ => ?_)
      clear hK K
      refine wpAnyH_one (i := 16) (by kernel_rfl) rfl (by kernel_rfl) ?_
      intro K hK
      unfold Oper.wp
      go_simp
      refine hK _ _ HDb.out (fun _ => ?_)
      clear hK K
      refine wpAnyH_done (by kernel_rfl) ?_ _
      first | refine Only.next ?_ | refine Only.mk_ ?_
      have r0 := (HXU.out _ HDb.out).1
      go_wp2_with fail
      go_roundw
      case rel => exact ⟨k + 1, A6, c6, A8, c8, by omega, by rw [HPN.out, ← HPA.out], rfl, rfl, by rw [HLS.out], by go_num, own_far2 HROW1.out HDb.out, own_far2 HROW2.out HDb.out, HB8.out.trans (HDb.out.mono HB8.out.size)⟩
      case measure => simp [intOf]; omega
    · obtain rfl : k = n := by omega
      have i1 : ¬ (k : Int) < (k : Int) := by omega
      have hz := Ch.body_size 1 t v k
      have hbe : Ch.body 1 t v k = Ch.body1 t v k := rfl
      rw [hbe] at hz
      have hfull : Ch.full 1 t v k = Ch.body1 t v k ++ Crc.four (Crc.ofB (Ch.body1 t v k)) := rfl
      have h4 := Crc.four_size (Crc.ofB (Ch.body1 t v k))
      have HTL := Lib.hid (fun W => rTail_any (Ch.body1 t v k) (by unfold maxLen; omega) W)
      have hbd : Num.wideB k ++ Ch.cat (Ch.one1 t v) 0 k = Ch.body1 t v k := rfl
      rw [hbd]
      have HFL := Lib.hid hfull
      generalize Crc.four (Crc.ofB (Ch.body1 t v k)) = q at *
      generalize Ch.body1 t v k = bb at *
      have hsum : ¬ 9223372036854775807 < bb.size + q.size := by omega
      clear hz h4 hfull hbe hbd
      go_wp2_with fail
      refine (HTL.out _).mono ?_; rintro e w5 ⟨rfl, hb5⟩
      have HB5 := Lib.hid (HB.out.trans (hb5.mono HB.out.size)); clear hb5
      go_wp2_with fail
      go_ret2
      exact ⟨by rw [HFL.out]; rfl, HB5.out⟩
set_option maxRecDepth 100000 in
set_option maxHeartbeats 4000000 in
theorem rPut2_any (A : Option Addr) (n c : Nat) (hn : n ≤ 200) (t : Nat → Int) (v : Nat → Nat) (ht : ∀ i, i < n → St.inR (t i)) (hv : ∀ i, i < n → v i < 18446744073709551616) (w : World) (hA : Row 2 (sx (Ch.sm t v)) w A n) (hs : Ma.rising (Ch.sm t v) n = true) :
    Calls Tryz.prog 6 #[.slice A n c, .int .i64 2] w fun e w' => e = .returned (.tuple #[.string (Ch.full 2 t v n), .int .i64 0]) ∧ Below w.heap.size w w' := by
  have HA := Lib.hid hA; have HIN := Lib.hid ht; have HIV := Lib.hid hv
  obtain ⟨i0, hi, hz0, hz1, hz2⟩ := info_parts Tryz.info_i64
  obtain ⟨j0, hj, hy0, hy1, hy2⟩ := info_parts Tryz.info_u64
  have hso := Sorted0_any A n c (by omega) (Ch.sm t v) w hA
  rw [hs] at hso
  have HSO := Lib.hid hso
  have d0 : decide ((200 : Int) < (n : Int)) = false := by simp; omega
  have hu := Ch.u_nat n (by omega)
  have HSM := Lib.hid (fun W => rSmall_any n (Lib.hid (by omega)) W)
  have HWD := Lib.hid (fun W => rWide_any n (Lib.hid (by omega)) W)
  clear hA hs hso ht hv
  go_enter Tryz.func6, Tryz.ntmps6
  go_wp2_with fail
  refine HSO.out.mono ?_; rintro e w1 ⟨rfl, hd⟩
  have HB1 := Lib.hid hd.below; clear hd
  go_wp2_with fail
  refine (HSM.out _).mono ?_; rintro e w2 ⟨rfl, hb2⟩
  have HB2 := Lib.hid (below_step HB1.out hb2); clear hb2
  have HB3 := HB2
  clear HB1 HB2 HSO HSM HWD
  go_wp2_with fail
  go_loopw [7, 8, 9, 10, 11] (fun s ts vs ls i wr => ∃ (k : Nat) (A1 : Option Addr) (c1 : Nat) (A2 : Option Addr) (c2 : Nat), k ≤ n ∧ s = .string (Num.smallB n ++ Ch.cat (Ch.one2 t v) 0 k) ∧ ts = .slice A1 k c1 ∧ vs = .slice A2 k c2 ∧ ls = .int .i64 (Ch.last t k) ∧ i = .int .i64 k ∧
    wr.ownsRow w.heap.size 2 1 (.slice A1 k c1) k (intVals ((List.range k).map t)) ∧ wr.ownsRow w.heap.size 28 1 (.slice A2 k c2) k (natVals ((List.range k).map v)) ∧ Below w.heap.size w wr) (fun _ _ _ _ i _ => n - (intOf i).toNat)
  case atStart => exact ⟨0, none, 0, none, 0, by omega, by simp [Ch.cat], rfl, rfl, rfl, rfl, World.ownsRow_nil _ _ _ _, World.ownsRow_nil _ _ _ _, HB3.out⟩
  case round =>
    obtain ⟨k, A1, c1, A2, c2, hk, rfl, rfl, rfl, rfl, rfl, ho1, ho2, hb⟩ := hrel
    have HO1 := Lib.hid ho1; have HO2 := Lib.hid ho2; have HB := Lib.hid hb; clear ho1 ho2 hb
    have hbs := HB.out.size
    by_cases hlt : k < n
    · obtain ⟨ad, rfl, -, -⟩ := HA.out.at_ HB.out hlt
      have hx := fun W hb => hx_of (W := W) HA.out hb hlt rfl
      have i1 : (k : Int) < (n : Int) := by omega
      have i2 : (0 : Int) ≤ (k : Int) := by omega
      have HN1 := Lib.hid (intVals_snoc t k)
      have HN2 := Lib.hid (natVals_snoc v k)
      have hlast : Ch.last t (k + 1) = t k := by unfold Ch.last; rw [if_neg (by omega), Nat.add_sub_cancel]
      have HLS := Lib.hid hlast
      have HX := Lib.hid hx
      have x0 := (hx wr HB.out).1
      have hown1 := HO1.out; have hown2 := HO2.out
      have hcat := Ch.cat_snoc (Ch.one2 t v) k 0
      rw [Nat.zero_add] at hcat
      have hcs := (Ch.cat_size (Ch.one2 t v) 9 18 (Ch.one2_size t v) k 0).2
      have hfs := Fr.small_le n
      have hps : (Num.smallB n ++ Ch.cat (Ch.one2 t v) 0 k).size ≤ 10 + 18 * k := by rw [ByteArray.size_append]; omega
      have HPN : Hid (Num.smallB n ++ Ch.cat (Ch.one2 t v) 0 (k + 1) = (Num.smallB n ++ Ch.cat (Ch.one2 t v) 0 k) ++ Ch.one2 t v k) := Lib.hid (by rw [hcat, ByteArray.append_assoc])
      have ho : Ch.one2 t v k = Num.smallB (Num.zig (wrap64 (t k - Ch.last t k))) ++ Num.wideB (v k) := rfl
      have hzi := Ch.w64_in (t k - Ch.last t k)
      have hz1' : Hid (-9223372036854775808 ≤ wrap64 (t k - Ch.last t k) ∧ wrap64 (t k - Ch.last t k) ≤ 9223372036854775807) := Lib.hid ⟨hzi.1, by have := hzi.2; omega⟩
      have hzl := Num.zig_lt (wrap64 (t k - Ch.last t k)) hz1'.out.1 hz1'.out.2
      have HCZ := Lib.hid (fun W => rZig_any (wrap64 (t k - Ch.last t k)) hz1' W)
      have HC1 := Lib.hid (fun W => rSmall_any (Num.zig (wrap64 (t k - Ch.last t k))) (Lib.hid hzl) W)
      have HC3 := Lib.hid (fun W => rWide_any (v k) (Lib.hid (HIV.out k hlt)) W)
      have e1 := Fr.small_le (Num.zig (wrap64 (t k - Ch.last t k)))
      have e2 := Num.wideB_size (v k)
      rw [ho] at HPN
      clear hz1' hzl hzi
      generalize Num.zig (wrap64 (t k - Ch.last t k)) = zg at *
      generalize Num.smallB zg = a1 at *
      generalize Num.wideB (v k) = a2 at *
      generalize hst : wrap64 (t k - Ch.last t k) = st at *
      have hst2 : IntKind.i64.wrap (t k - Ch.last t k) = st := (wrap_is _).trans hst
      generalize Ch.last t k = ls at *
      generalize (Num.smallB n ++ Ch.cat (Ch.one2 t v) 0 k) = ps at *
      have z1 : ¬ 9223372036854775807 < ps.size + a1.size := by omega
      have z2 : (ps ++ a1).size = ps.size + a1.size := ByteArray.size_append ..
      have z3 : ¬ 9223372036854775807 < (ps ++ a1).size + a2.size := by omega
      have z4 : ¬ 9223372036854775807 < ps.size + a1.size + a2.size := by omega
      have HPA : Hid ((ps ++ a1) ++ a2 = ps ++ (a1 ++ a2)) := Lib.hid (ByteArray.append_assoc ..)
      clear hcat hcs hfs hps e1 e2 ho
      generalize t k = tk at *
      generalize v k = vk at *
      have hk1 : ∀ w6, (wr.alloc (.cells #[.int .i64 tk] 2)).grownBy w6 (Value.slice A1 k c1).ownBlock → Below w.heap.size w w6 := fun w6 hg6 =>
        (HB.out.alloc hbs _).grown hg6 (by simp; omega) (fun r hr => ((hown1.alloc (.cells #[.int .i64 tk] 2)).lt r hr).1)
      have hk2 : ∀ w6, (wr.alloc (.cells #[.int .i64 tk] 2)).grownBy w6 (Value.slice A1 k c1).ownBlock → w6.ownsRow w.heap.size 28 1 (.slice A2 k c2) k (natVals ((List.range k).map v)) := fun w6 hg6 =>
        (hown2.alloc (.cells #[.int .i64 tk] 2)).kept hg6 (own_two_ne (hown2.alloc (.cells #[.int .i64 tk] 2)) (hown1.alloc (.cells #[.int .i64 tk] 2)) (by decide))
      have hk3 : ∀ w6 w8, Below w.heap.size w w6 → w6.ownsRow w.heap.size 28 1 (.slice A2 k c2) k (natVals ((List.range k).map v)) → (w6.alloc (.cells #[.int .u64 (vk : Int)] 28)).grownBy w8 (Value.slice A2 k c2).ownBlock → Below w.heap.size w w8 := fun w6 w8 hb6 h6 hg8 =>
        (hb6.alloc hb6.size _).grown hg8 (by have := hb6.size; simp; omega) (fun r hr => ((h6.alloc (.cells #[.int .u64 (vk : Int)] 28)).lt r hr).1)
      have hlen : ∀ w6, (wr.alloc (.cells #[.int .i64 tk] 2)).grownBy w6 (Value.slice A1 k c1).ownBlock → w.heap.size ≤ w6.heap.size := fun w6 hg6 => (hk1 w6 hg6).size
      clear hx
      go_wp2_with (at_builtin; first
        | (refine wpList_append_own _ rfl _ _ 45 rfl w.heap.size 2 i0 (.int .i64 0) 1 8 Tryz.underlying45 hi hz0 hz1 hz2 rfl (by decide) _ _ _ rfl (hown1.alloc _) ⟨wr.heap.size, 0, none⟩ 1 1 [.int .i64 tk] rfl rfl (cell_one_new _ _ _) (by simp [Value.oneCell']) (by unfold maxLen; omega) (by omega) (by simp; omega) ?_; intro v6 w6 hown6 hg6 _; obtain ⟨A6, c6, rfl⟩ := own_form hown6; have hb6 := hk1 _ hg6; have q1 := (HX.out _ hb6).2; have hp2 := hk2 _ hg6; have hz6 := hlen _ hg6)
        | (go_must (refine wpList_append_own _ rfl _ _ 46 rfl w.heap.size 28 j0 (.int .u64 0) 1 8 Tryz.underlying46 hj hy0 hy1 hy2 rfl (by decide) _ _ _ rfl (hp2.alloc _) ⟨w6.heap.size, 0, none⟩ 1 1 [.int .u64 (vk : Int)] rfl rfl (cell_one_new _ _ _) (by simp [Value.oneCell']) (by unfold maxLen; omega) (by omega) (by simp; omega) ?_); intro v8 w8 hown8 hg8 _; obtain ⟨A8, c8, rfl⟩ := own_form hown8; have hb8 := hk3 _ _ hb6 hp2 hg8; have r0 := (HX.out _ hb8).1))
      have hrow1 : w8.ownsRow w.heap.size 2 1 (.slice A6 (k + 1) c6) (k + 1) (intVals ((List.range (k + 1)).map t)) := by
        rw [HN1.out]
        exact (hown6.alloc _).kept hg8 (own_two_ne (hown6.alloc (.cells #[.int .u64 (vk : Int)] 28)) (hp2.alloc (.cells #[.int .u64 (vk : Int)] 28)) (by decide))
      have hrow2 : w8.ownsRow w.heap.size 28 1 (.slice A8 (k + 1) c8) (k + 1) (natVals ((List.range (k + 1)).map v)) := by
        rw [HN2.out]
        exact hown8
      have HROW1 := Lib.hid hrow1; have HROW2 := Lib.hid hrow2; have HB8 := Lib.hid hb8
      clear hrow1 hrow2 hb8 r0 hown8 hg8 hown6 hg6 hp2 hz6 q1 hb6 x0 hown1 hown2 hk1 hk2 hk3 hlen
      have HXU : Hid (∀ U, Below w8.heap.size w8 U → U.cell? (ad.add (k * 2)) = some (.int .i64 tk) ∧ U.cell? ⟨(ad.add (k * 2)).block, (ad.add (k * 2)).off + 1, none⟩ = some (.int .u64 (vk : Int))) := Lib.hid (fun U hU => HX.out U (HB8.out.trans (hU.mono HB8.out.size)))
      refine plain_held (fun U => Below w8.heap.size w8 U) (by kernel_rfl) ?_
      have HD : Hid (Below w8.heap.size w8 w8.drew) := Lib.hid (Below.refl _ _).drew
      generalize w8.drew = wd at HD ⊢
      refine wpAnyH_pickQ (S := fun U => Below w8.heap.size w8 U) (by kernel_rfl) Only.panic Only.keepsIn (w := wd) HD.out [0, 1, 2, 3, 4, 5, 6, 7, 11, 12, 13, 14, 15] 6 _ _ (by kernel_rfl) ?_
      refine PickQ.value (d := some 79) (.string ps) rfl rfl (by kernel_rfl) (fun U hU => (by go_simp)) ?_
      refine PickQ.value (d := some 80) (.slice (some ad) n c) rfl rfl (by kernel_rfl) (fun U hU => (by go_simp)) ?_
      refine PickQ.value (d := some 81) (.int .i64 (k : Int)) rfl rfl (by kernel_rfl) (fun U hU => (by go_simp)) ?_
      refine PickQ.value (d := some 82) (.pointer (some (ad.add (k * 2)))) rfl rfl (by kernel_rfl) (fun U hU => (by go_simp)) ?_
      refine PickQ.value (d := some 83) (.pointer (some (ad.add (k * 2)))) rfl rfl (by kernel_rfl) (fun U hU => (by go_simp)) ?_
      refine PickQ.value (d := some 84) (.int .i64 tk) rfl rfl (by kernel_rfl) (fun U hU => (by have q := (HXU.out U hU).1; go_simp)) ?_
      refine PickQ.value (d := some 85) (.int .i64 ls) rfl rfl (by kernel_rfl) (fun U hU => (by go_simp)) ?_
      refine PickQ.value (d := some 86) (.int .i64 st) rfl rfl (by kernel_rfl) (fun U hU => (by go_simp)) ?_
      refine PickQ.value (d := some 90) (.slice (some ad) n c) rfl rfl (by kernel_rfl) (fun U hU => (by go_simp)) ?_
      refine PickQ.value (d := some 91) (.int .i64 (k : Int)) rfl rfl (by kernel_rfl) (fun U hU => (by go_simp)) ?_
      refine PickQ.value (d := some 92) (.pointer (some (ad.add (k * 2)))) rfl rfl (by kernel_rfl) (fun U hU => (by go_simp)) ?_
      refine PickQ.value (d := some 93) (.pointer (some ⟨(ad.add (k * 2)).block, (ad.add (k * 2)).off + 1, none⟩)) rfl rfl (by kernel_rfl) (fun U hU => (by go_simp)) ?_
      refine PickQ.value (d := some 94) (.int .u64 (vk : Int)) rfl rfl (by kernel_rfl) (fun U hU => (by have q := (HXU.out U hU).2; go_simp)) ?_
      simp only [PickQ, Act.put, List.setIfInBounds_toArray]
      refine wpAnyH_one (i := 8) (by kernel_rfl) rfl (by kernel_rfl) ?_
      intro K hK
      unfold Oper.wp
      go_simp
      refine (HCZ.out _).mono ?_; rintro e wz ⟨rfl, rfl⟩
      refine hK _ _ HD.out (fun _ => ?_)
      clear hK K
      refine wpAnyH_one (i := 9) (by kernel_rfl) rfl (by kernel_rfl) ?_
      intro K hK
      unfold Oper.wp
      go_simp
      refine (HC1.out _).mono ?_; rintro e wa ⟨rfl, hba⟩
      have HDa := Lib.hid (below_step HD.out hba); clear hba
      refine hK _ _ HDa.out (fun _ => ?_)
      clear hK K
      refine wpAnyH_pickQ (S := fun U => Below w8.heap.size w8 U) (by kernel_rfl) Only.panic Only.keepsIn (w := wa) HDa.out [10] 3 _ _ (by kernel_rfl) ?_
      refine PickQ.value (d := some 89) (.string (ps ++ a1)) rfl rfl (by kernel_rfl) (fun U hU => (by go_simp)) ?_
      simp only [PickQ, Act.put, List.setIfInBounds_toArray, List.set_cons_zero, List.set_cons_succ]
      refine wpAnyH_one (i := 16) (by kernel_rfl) rfl (by kernel_rfl) ?_
      intro K hK
      unfold Oper.wp
      go_simp
      refine (HC3.out _).mono ?_; rintro e wb ⟨rfl, hbb⟩
      have HDb := Lib.hid (below_step HDa.out hbb); clear hbb
      refine hK _ _ HDb.out (fun _ => ?_)
      clear hK K
      refine wpAnyH_one (i := 17) (by kernel_rfl) rfl (by kernel_rfl) ?_
      intro K hK
      unfold Oper.wp
      go_simp
      refine hK _ _ HDb.out (fun _ => ?_)
      clear hK K
      refine wpAnyH_one (i := 18) (by kernel_rfl) rfl (by kernel_rfl) ?_
      intro K hK
      unfold Oper.wp
      go_simp
      refine hK _ _ HDb.out (fun _ => ?_)
      clear hK K
      refine wpAnyH_done (by kernel_rfl) ?_ _
      first | refine Only.next ?_ | refine Only.mk_ ?_
      have r0 := (HXU.out _ HDb.out).1
      go_wp2_with fail
      go_roundw
      case rel => exact ⟨k + 1, A6, c6, A8, c8, by omega, by rw [HPN.out, ← HPA.out], rfl, rfl, by rw [HLS.out], by go_num, own_far2 HROW1.out HDb.out, own_far2 HROW2.out HDb.out, HB8.out.trans (HDb.out.mono HB8.out.size)⟩
      case measure => simp [intOf]; omega
    · obtain rfl : k = n := by omega
      have i1 : ¬ (k : Int) < (k : Int) := by omega
      have hz := Ch.body_size 2 t v k
      have hbe : Ch.body 2 t v k = Ch.body2 t v k := rfl
      rw [hbe] at hz
      have hfull : Ch.full 2 t v k = Ch.body2 t v k ++ Crc.four (Crc.ofB (Ch.body2 t v k)) := rfl
      have h4 := Crc.four_size (Crc.ofB (Ch.body2 t v k))
      have HTL := Lib.hid (fun W => rTail_any (Ch.body2 t v k) (by unfold maxLen; omega) W)
      have hbd : Num.smallB k ++ Ch.cat (Ch.one2 t v) 0 k = Ch.body2 t v k := rfl
      rw [hbd]
      have HFL := Lib.hid hfull
      generalize Crc.four (Crc.ofB (Ch.body2 t v k)) = q at *
      generalize Ch.body2 t v k = bb at *
      have hsum : ¬ 9223372036854775807 < bb.size + q.size := by omega
      clear hz h4 hfull hbe hbd
      go_wp2_with fail
      refine (HTL.out _).mono ?_; rintro e w5 ⟨rfl, hb5⟩
      have HB5 := Lib.hid (HB.out.trans (hb5.mono HB.out.size)); clear hb5
      go_wp2_with fail
      go_ret2
      exact ⟨by rw [HFL.out]; rfl, HB5.out⟩
set_option maxRecDepth 100000 in
set_option maxHeartbeats 4000000 in
theorem rPut3_any (A : Option Addr) (n c : Nat) (hn : n ≤ 200) (t : Nat → Int) (v : Nat → Nat) (ht : ∀ i, i < n → St.inR (t i)) (hv : ∀ i, i < n → v i < 18446744073709551616) (w : World) (hA : Row 2 (sx (Ch.sm t v)) w A n) (hs : Ma.rising (Ch.sm t v) n = true) :
    Calls Tryz.prog 6 #[.slice A n c, .int .i64 3] w fun e w' => e = .returned (.tuple #[.string (Ch.full 3 t v n), .int .i64 0]) ∧ Below w.heap.size w w' := by
  have HA := Lib.hid hA; have HIN := Lib.hid ht; have HIV := Lib.hid hv
  obtain ⟨i0, hi, hz0, hz1, hz2⟩ := info_parts Tryz.info_i64
  obtain ⟨j0, hj, hy0, hy1, hy2⟩ := info_parts Tryz.info_u64
  have hso := Sorted0_any A n c (by omega) (Ch.sm t v) w hA
  rw [hs] at hso
  have HSO := Lib.hid hso
  have d0 : decide ((200 : Int) < (n : Int)) = false := by simp; omega
  have hu := Ch.u_nat n (by omega)
  have HSM := Lib.hid (fun W => rSmall_any n (Lib.hid (by omega)) W)
  have HWD := Lib.hid (fun W => rWide_any n (Lib.hid (by omega)) W)
  clear hA hs hso ht hv
  go_enter Tryz.func6, Tryz.ntmps6
  go_wp2_with fail
  refine HSO.out.mono ?_; rintro e w1 ⟨rfl, hd⟩
  have HB1 := Lib.hid hd.below; clear hd
  go_wp2_with fail
  refine (HSM.out _).mono ?_; rintro e w2 ⟨rfl, hb2⟩
  have HB2 := Lib.hid (below_step HB1.out hb2); clear hb2
  have HB3 := HB2
  clear HB1 HB2 HSO HSM HWD
  go_wp2_with fail
  go_loopw [7, 8, 9, 10, 11] (fun s ts vs ls i wr => ∃ (k : Nat) (A1 : Option Addr) (c1 : Nat) (A2 : Option Addr) (c2 : Nat), k ≤ n ∧ s = .string (Num.smallB n) ∧ ts = .slice A1 k c1 ∧ vs = .slice A2 k c2 ∧ ls = .int .i64 (Ch.last t k) ∧ i = .int .i64 k ∧
    wr.ownsRow w.heap.size 2 1 (.slice A1 k c1) k (intVals ((List.range k).map t)) ∧ wr.ownsRow w.heap.size 28 1 (.slice A2 k c2) k (natVals ((List.range k).map v)) ∧ Below w.heap.size w wr) (fun _ _ _ _ i _ => n - (intOf i).toNat)
  case atStart => exact ⟨0, none, 0, none, 0, by omega, rfl, rfl, rfl, rfl, rfl, World.ownsRow_nil _ _ _ _, World.ownsRow_nil _ _ _ _, HB3.out⟩
  case round =>
    obtain ⟨k, A1, c1, A2, c2, hk, rfl, rfl, rfl, rfl, rfl, ho1, ho2, hb⟩ := hrel
    have HO1 := Lib.hid ho1; have HO2 := Lib.hid ho2; have HB := Lib.hid hb; clear ho1 ho2 hb
    have hbs := HB.out.size
    by_cases hlt : k < n
    · obtain ⟨ad, rfl, -, -⟩ := HA.out.at_ HB.out hlt
      have hx := fun W hb => hx_of (W := W) HA.out hb hlt rfl
      have i1 : (k : Int) < (n : Int) := by omega
      have i2 : (0 : Int) ≤ (k : Int) := by omega
      have HN1 := Lib.hid (intVals_snoc t k)
      have HN2 := Lib.hid (natVals_snoc v k)
      have hlast : Ch.last t (k + 1) = t k := by unfold Ch.last; rw [if_neg (by omega), Nat.add_sub_cancel]
      have HLS := Lib.hid hlast
      have HX := Lib.hid hx
      have x0 := (hx wr HB.out).1
      have hown1 := HO1.out; have hown2 := HO2.out
      generalize t k = tk at *
      generalize v k = vk at *
      have hk1 : ∀ w6, (wr.alloc (.cells #[.int .i64 tk] 2)).grownBy w6 (Value.slice A1 k c1).ownBlock → Below w.heap.size w w6 := fun w6 hg6 =>
        (HB.out.alloc hbs _).grown hg6 (by simp; omega) (fun r hr => ((hown1.alloc (.cells #[.int .i64 tk] 2)).lt r hr).1)
      have hk2 : ∀ w6, (wr.alloc (.cells #[.int .i64 tk] 2)).grownBy w6 (Value.slice A1 k c1).ownBlock → w6.ownsRow w.heap.size 28 1 (.slice A2 k c2) k (natVals ((List.range k).map v)) := fun w6 hg6 =>
        (hown2.alloc (.cells #[.int .i64 tk] 2)).kept hg6 (own_two_ne (hown2.alloc (.cells #[.int .i64 tk] 2)) (hown1.alloc (.cells #[.int .i64 tk] 2)) (by decide))
      have hk3 : ∀ w6 w8, Below w.heap.size w w6 → w6.ownsRow w.heap.size 28 1 (.slice A2 k c2) k (natVals ((List.range k).map v)) → (w6.alloc (.cells #[.int .u64 (vk : Int)] 28)).grownBy w8 (Value.slice A2 k c2).ownBlock → Below w.heap.size w w8 := fun w6 w8 hb6 h6 hg8 =>
        (hb6.alloc hb6.size _).grown hg8 (by have := hb6.size; simp; omega) (fun r hr => ((h6.alloc (.cells #[.int .u64 (vk : Int)] 28)).lt r hr).1)
      have hlen : ∀ w6, (wr.alloc (.cells #[.int .i64 tk] 2)).grownBy w6 (Value.slice A1 k c1).ownBlock → w.heap.size ≤ w6.heap.size := fun w6 hg6 => (hk1 w6 hg6).size
      clear hx
      go_wp2_with (at_builtin; first
        | (refine wpList_append_own _ rfl _ _ 45 rfl w.heap.size 2 i0 (.int .i64 0) 1 8 Tryz.underlying45 hi hz0 hz1 hz2 rfl (by decide) _ _ _ rfl (hown1.alloc _) ⟨wr.heap.size, 0, none⟩ 1 1 [.int .i64 tk] rfl rfl (cell_one_new _ _ _) (by simp [Value.oneCell']) (by unfold maxLen; omega) (by omega) (by simp; omega) ?_; intro v6 w6 hown6 hg6 _; obtain ⟨A6, c6, rfl⟩ := own_form hown6; have hb6 := hk1 _ hg6; have q1 := (HX.out _ hb6).2; have hp2 := hk2 _ hg6; have hz6 := hlen _ hg6)
        | (go_must (refine wpList_append_own _ rfl _ _ 46 rfl w.heap.size 28 j0 (.int .u64 0) 1 8 Tryz.underlying46 hj hy0 hy1 hy2 rfl (by decide) _ _ _ rfl (hp2.alloc _) ⟨w6.heap.size, 0, none⟩ 1 1 [.int .u64 (vk : Int)] rfl rfl (cell_one_new _ _ _) (by simp [Value.oneCell']) (by unfold maxLen; omega) (by omega) (by simp; omega) ?_); intro v8 w8 hown8 hg8 _; obtain ⟨A8, c8, rfl⟩ := own_form hown8; have hb8 := hk3 _ _ hb6 hp2 hg8; have r0 := (HX.out _ hb8).1))
      have hrow1 : w8.ownsRow w.heap.size 2 1 (.slice A6 (k + 1) c6) (k + 1) (intVals ((List.range (k + 1)).map t)) := by
        rw [HN1.out]
        exact (hown6.alloc _).kept hg8 (own_two_ne (hown6.alloc (.cells #[.int .u64 (vk : Int)] 28)) (hp2.alloc (.cells #[.int .u64 (vk : Int)] 28)) (by decide))
      have hrow2 : w8.ownsRow w.heap.size 28 1 (.slice A8 (k + 1) c8) (k + 1) (natVals ((List.range (k + 1)).map v)) := by
        rw [HN2.out]
        exact hown8
      go_roundw
      case rel => exact ⟨k + 1, A6, c6, A8, c8, by omega, rfl, rfl, rfl, by rw [HLS.out], by go_num, hrow1, hrow2, hb8⟩
      case measure => simp [intOf]; omega
    · obtain rfl : k = n := by omega
      have i1 : ¬ (k : Int) < (k : Int) := by omega
      have hz := Ch.body_size 3 t v k
      have hbe : Ch.body 3 t v k = Ch.body3 t v k := rfl
      rw [hbe] at hz
      have hfull : Ch.full 3 t v k = Ch.body3 t v k ++ Crc.four (Crc.ofB (Ch.body3 t v k)) := rfl
      have h4 := Crc.four_size (Crc.ofB (Ch.body3 t v k))
      have HTL := Lib.hid (fun W => rTail_any (Ch.body3 t v k) (by unfold maxLen; omega) W)
      have hr1 := own_intRow HO1.out (by simp) (fun x hx => by
        obtain ⟨i, hi, rfl⟩ := List.mem_map.1 hx
        exact HIN.out i (List.mem_range.1 hi))
      have hr2 := own_natRow HO2.out (by simp) (fun x hx => by
        obtain ⟨i, hi, rfl⟩ := List.mem_map.1 hx
        exact HIV.out i (List.mem_range.1 hi))
      have hg1 : St.bits (fun i => ((List.range k).map t).getD i 0) k = St.bits t k := (St.after_congr k (fun i hi => by simp [List.getD, hi])).2
      have hg2 : Va.bits (fun i => ((List.range k).map v).getD i 0) k = Va.bits v k := (Va.after_congr k (fun i hi => by simp [List.getD, hi])).2
      have HR1 := Lib.hid hr1; have HR2 := Lib.hid hr2
      have hst := fun W (hb : Below wr.heap.size wr W) => rStAll_any W A1 k c1 (fun i => ((List.range k).map t).getD i 0) hn (IntRow.later HR1.out hb)
      have hva := fun W (hb : Below wr.heap.size wr W) => rVAll_any W A2 k c2 (fun i => ((List.range k).map v).getD i 0) hn (IntRow.later HR2.out hb)
      rw [hg1] at hst; rw [hg2] at hva
      have z1 := Ch.text3_size t k
      have z2 := Ch.textV_size v k
      have hbd : (Num.smallB k ++ Fr.txt (Bit.text (St.bits t k))) ++ Fr.txt (Bit.text (Va.bits v k)) = Ch.body3 t v k := rfl
      have z0 := Fr.small_le k
      have HFL := Lib.hid hfull
      generalize Crc.four (Crc.ofB (Ch.body3 t v k)) = q at *
      generalize Ch.body3 t v k = bb at *
      generalize Bit.text (St.bits t k) = b1 at *
      generalize Bit.text (Va.bits v k) = b2 at *
      have hx1 := fun W => rText_any b1 (by omega) W
      have hx2 := fun W => rText_any b2 (by omega) W
      have y1 : Num.smallB b1.size ++ b1 = Fr.txt b1 := rfl
      have y2 : Num.smallB b2.size ++ b2 = Fr.txt b2 := rfl
      rw [y1] at hx1; rw [y2] at hx2
      have z3 : (Fr.txt b1).size ≤ 10 + 9 * k := by rw [Fr.txt_size]; have := Fr.small_le b1.size; omega
      have z4 : (Fr.txt b2).size ≤ 10 + 10 * k := by rw [Fr.txt_size]; have := Fr.small_le b2.size; omega
      generalize Fr.txt b1 = t1 at *
      generalize Fr.txt b2 = t2 at *
      generalize Num.smallB k = sk at *
      have z5 : (sk ++ t1).size = sk.size + t1.size := ByteArray.size_append ..
      have hs1 : ¬ 9223372036854775807 < sk.size + t1.size := by omega
      have hs2 : ¬ 9223372036854775807 < (sk ++ t1).size + t2.size := by omega
      have hs4 : ¬ 9223372036854775807 < sk.size + t1.size + t2.size := by omega
      have hs3 : ¬ 9223372036854775807 < bb.size + q.size := by omega
      have HST := Lib.hid hst; have HVA := Lib.hid hva; have HX1 := Lib.hid hx1; have HX2 := Lib.hid hx2
      clear hr1 hr2 hst hva hx1 hx2 hg1 hg2 z0 z1 z2 z3 z4 HR1 HR2 HO1 HO2 y1 y2 hz h4 hfull hbe
      go_wp2_with fail
      refine (HST.out _ (Below.refl _ _)).mono ?_; rintro e w2 ⟨rfl, hb2⟩
      have HB2 := Lib.hid hb2; clear hb2
      go_wp2_with fail
      refine (HX1.out _).mono ?_; rintro e w3 ⟨rfl, hb3⟩
      have HB3 := Lib.hid (below_step HB2.out hb3); clear hb3
      go_wp2_with fail
      refine (HVA.out _ HB3.out).mono ?_; rintro e w4 ⟨rfl, hb4⟩
      have HB4 := Lib.hid (below_step HB3.out hb4); clear hb4
      go_wp2_with fail
      refine (HX2.out _).mono ?_; rintro e w5 ⟨rfl, hb5⟩
      have HB5 := Lib.hid (below_step HB4.out hb5); clear hb5
      go_wp2_with fail
      refine (HTL.out _).mono ?_; rintro e w6 ⟨rfl, hb6⟩
      have HB6 := Lib.hid (below_step HB5.out hb6); clear hb6
      go_wp2_with fail
      go_ret2
      exact ⟨by rw [HFL.out]; rfl, HB.out.trans (HB6.out.mono HB.out.size)⟩
end Go.Proofs.YtfgcgjogaaofdaaGreatDoor
