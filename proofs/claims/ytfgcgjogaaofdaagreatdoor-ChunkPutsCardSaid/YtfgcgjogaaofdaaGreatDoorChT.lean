/-
  What tell of package chunk comes to, over the samples of generation 1, and of generation 2.
-/
import Derived.Test.YtfgcgjogaaofdaaGreatDoorChA
namespace Go.Proofs.YtfgcgjogaaofdaaGreatDoor
open Go.RowKit
theorem BldAt.grownAt {W W2 : World} {base b tb : Nat} {p : Value} {l : List Value} (h : Lib.BuilderAt 91 5 base b p l W) (hg : W.grownBy W2 (some tb)) (htb : tb < base) : Lib.BuilderAt 91 5 base b p l W2 := by
  obtain ⟨h1, v, h2, h3, h4⟩ := h
  refine ⟨h1, v, (hg.block b (Array.getElem?_eq_some_iff.1 h2).1 (fun e => by cases e; omega)).trans h2, h3.kept hg ?_, h4⟩
  cases hv : v.ownBlock with
  | none => exact .inl rfl
  | some k => exact .inr (fun e => by have := (h3.lt k hv).1; cases e; omega)
theorem BldAt.grown {W W2 : World} {base b tb : Nat} {l : List UInt8} (h : BldAt W base b l) (hg : W.grownBy W2 (some tb)) (htb : tb < base) : BldAt W2 base b l := by
  rcases h with h | h
  · exact .inl (BldAt.grownAt h hg htb)
  · exact .inr (BldAt.grownAt h hg htb)
theorem ba_list (x : ByteArray) : (⟨x.data.toList.toArray⟩ : ByteArray) = x := by cases x; simp
set_option maxRecDepth 100000 in
set_option maxHeartbeats 1000000 in
theorem tellW_any (A : Option Addr) (n c : Nat) (hn : n ≤ 1000) (t : Nat → Int) (v : Nat → Nat) (w : World) (hA : Row 2 (sx (Ch.sm t v)) w A n) :
    Calls Tryz.prog 46 #[.slice A n c, .func (.func 47) #[] #[]] w fun e w' => e = .returned (.string (Ch.cat (Ch.one1 t v) 0 n)) ∧ Below w.heap.size w w' := by
  have HA := Lib.hid hA; clear hA
  go_enter Tryz.func46, Tryz.ntmps46
  go_wp2_with fail
  go_loopw [10] (fun i wr => ∃ k : Nat, k ≤ n ∧ i = .int .i64 k ∧ BldAt wr w.heap.size w.heap.size (Ch.cat (Ch.one1 t v) 0 k).data.toList ∧ Below w.heap.size w wr) (fun i _ => n - (intOf i).toNat)
  case atStart => exact ⟨0, by omega, rfl, BldAt.new w, (Below.refl _ _).alloc (Nat.le_refl _) _⟩
  case round =>
    obtain ⟨k, hk, rfl, hbl, hb⟩ := hrel
    have HBL := Lib.hid hbl; have HB := Lib.hid hb; clear hbl hb
    by_cases hlt : k < n
    · obtain ⟨ad, rfl, c0, c1⟩ := HA.out.at_ HB.out hlt
      have x0 : wr.cell? (ad.add (k * 2)) = some (.int .i64 (t k)) := c0 (by omega)
      have x1 : wr.cell? ⟨(ad.add (k * 2)).block, (ad.add (k * 2)).off + 1, none⟩ = some (.int .u64 (v k : Int)) := c1 1 (by omega) (by omega)
      have hsz := (Ch.cat_size (Ch.one1 t v) 16 16 (Ch.one1_size t v) k 0).2
      have hcat := Ch.cat_snoc (Ch.one1 t v) k 0
      rw [Nat.zero_add] at hcat
      have hos := (Ch.one1_size t v k).2
      have hone := fun W => putW_one (t k) (v k) W
      have ho : Num.wideB (Ch.u (t k)) ++ Num.wideB (v k) = Ch.one1 t v k := rfl
      rw [ho] at hone
      generalize Ch.one1 t v k = o at *
      have HCAT := Lib.hid hcat; have HONE := Lib.hid hone
      generalize hg0 : Ch.cat (Ch.one1 t v) 0 k = g0 at *
      have hgl : g0.data.toList.length = g0.size := by simp
      have i1 : (k : Int) < (n : Int) := by omega
      have i0 : (0 : Int) ≤ (k : Int) := by omega
      have hal : Below wr.heap.size wr (wr.alloc (.cells #[.int .i64 (t k), .int .u64 (v k : Int)] 30)) := (Below.refl _ _).alloc (Nat.le_refl _) _
      have HAL := Lib.hid hal
      have HG0 := Lib.hid hg0
      clear hone hcat c0 c1 hal ho hg0
      go_wp2_with fail
      refine (HONE.out _).mono ?_; rintro e w2 ⟨rfl, hb2⟩
      have HBL2 := Lib.hid ((HBL.out.keep HAL.out).keep hb2)
      have HB2 := Lib.hid (HB.out.trans ((below_step HAL.out hb2).mono HB.out.size))
      clear hb2 x0 x1
      go_wp2_with fail
      refine (bldString w.heap.size w.heap.size _ o w2 HBL2.out (by omega) HB2.out.size).mono ?_; rintro e w3 ⟨rfl, hl3, hb3, -⟩
      have HB3 := Lib.hid (HB2.out.trans hb3); have HBL3 := Lib.hid hl3
      clear hb3 hl3
      go_wp2_with fail
      go_roundw
      case rel =>
        refine ⟨k + 1, by omega, by go_num, ?_, HB3.out⟩
        rw [HCAT.out, Num.app_list]
        exact HBL3.out
      case measure => simp [intOf]; omega
    · obtain rfl : k = n := by omega
      have i1 : ¬ (k : Int) < (k : Int) := by omega
      go_wp2_with fail
      refine (bldText w.heap.size w.heap.size _ _ HBL.out HB.out.size).mono ?_; rintro e w4 ⟨rfl, hb4⟩
      rw [ba_list]
      have HB4 := Lib.hid (HB.out.trans hb4); clear hb4
      go_wp2_with fail
      go_ret
      exact ⟨rfl, HB4.out⟩
set_option maxRecDepth 100000 in
set_option maxHeartbeats 1000000 in
theorem tellS_any (A : Option Addr) (n c : Nat) (hn : n ≤ 1000) (t : Nat → Int) (v : Nat → Nat) (w0 : World) (hA : Row 2 (sx (Ch.sm t v)) w0 A n) (w : World) (h0 : Below w0.heap.size w0 w) (tb : Nat) (hlow : w0.heap.size ≤ tb) (hbox : RowIs w tb (.cells #[.int .i64 0] 2)) :
    Calls Tryz.prog 46 #[.slice A n c, .func (.func 52) #[] #[.pointer (some ⟨tb, 0, none⟩)]] w fun e w' => e = .returned (.string (Ch.cat (Ch.one2 t v) 0 n)) ∧ Below w0.heap.size w0 w' := by
  have HA := Lib.hid hA; have HBX := Lib.hid hbox; have H0 := Lib.hid h0
  have htb : tb < w.heap.size := (Array.getElem?_eq_some_iff.1 hbox).1
  have hz0 := h0.size
  clear hA hbox h0
  go_enter Tryz.func46, Tryz.ntmps46
  go_wp2_with fail
  go_loopw [10] (fun i wr => ∃ k : Nat, k ≤ n ∧ i = .int .i64 k ∧ BldAt wr w.heap.size w.heap.size (Ch.cat (Ch.one2 t v) 0 k).data.toList ∧ RowIs wr tb (.cells #[.int .i64 (Ch.last t k)] 2) ∧ Below w0.heap.size w0 wr ∧ w.heap.size ≤ wr.heap.size) (fun i _ => n - (intOf i).toNat)
  case atStart => exact ⟨0, by omega, rfl, BldAt.new w, HBX.out.keep ((Below.refl _ _).alloc (Nat.le_refl _) _), H0.out.alloc hz0 _, by simp⟩
  case round =>
    obtain ⟨k, hk, rfl, hbl, hrow, hb, hsw⟩ := hrel
    have HBL := Lib.hid hbl; have HB := Lib.hid hb; have HRW := Lib.hid hrow; clear hbl hb hrow
    by_cases hlt : k < n
    · obtain ⟨ad, rfl, c0, c1⟩ := HA.out.at_ HB.out hlt
      have x0 : wr.cell? (ad.add (k * 2)) = some (.int .i64 (t k)) := c0 (by omega)
      have x1 : wr.cell? ⟨(ad.add (k * 2)).block, (ad.add (k * 2)).off + 1, none⟩ = some (.int .u64 (v k : Int)) := c1 1 (by omega) (by omega)
      have hsz := (Ch.cat_size (Ch.one2 t v) 9 18 (Ch.one2_size t v) k 0).2
      have hcat := Ch.cat_snoc (Ch.one2 t v) k 0
      rw [Nat.zero_add] at hcat
      have hos := (Ch.one2_size t v k).2
      have hal : Below wr.heap.size wr (wr.alloc (.cells #[.int .i64 (t k), .int .u64 (v k : Int)] 30)) := (Below.refl _ _).alloc (Nat.le_refl _) _
      have hone := putS_one tb (Ch.last t k) (t k) (v k) _ (HRW.out.keep hal)
      have ho : Num.smallB (Num.zig (wrap64 (t k - Ch.last t k))) ++ Num.wideB (v k) = Ch.one2 t v k := rfl
      rw [ho] at hone
      have hlast : Ch.last t (k + 1) = t k := by unfold Ch.last; rw [if_neg (by omega), Nat.add_sub_cancel]
      generalize Ch.one2 t v k = o at *
      have HCAT := Lib.hid hcat; have HONE := Lib.hid hone; have HLS := Lib.hid hlast
      generalize hg0 : Ch.cat (Ch.one2 t v) 0 k = g0 at *
      have hgl : g0.data.toList.length = g0.size := by simp
      have i1 : (k : Int) < (n : Int) := by omega
      have i0 : (0 : Int) ≤ (k : Int) := by omega
      have HAL := Lib.hid hal
      have HG0 := Lib.hid hg0
      clear hone hcat c0 c1 hal ho hg0 hlast
      go_wp2_with fail
      refine HONE.out.mono ?_; rintro e w2 ⟨rfl, hr2, hg2⟩
      have HBL2 := Lib.hid ((HBL.out.keep HAL.out).grown hg2 htb)
      have HR2 := Lib.hid hr2
      have hz1 := HAL.out.size
      have HB2 := Lib.hid ((HB.out.trans (HAL.out.mono HB.out.size)).grown hg2 (by have := HB.out.size; omega) (fun r e => by cases e; exact hlow))
      have hz2 := hg2.size
      clear hg2 x0 x1 hr2
      go_wp2_with fail
      refine (bldString w.heap.size w.heap.size _ o w2 HBL2.out (by omega) (by omega)).mono ?_; rintro e w3 ⟨rfl, hl3, hb3, -⟩
      have HB3 := Lib.hid (HB2.out.trans (hb3.mono hz0)); have HBL3 := Lib.hid hl3
      have HR3 : Hid (RowIs w3 tb (.cells #[.int .i64 (t k)] 2)) := Lib.hid ((hb3.block tb htb).trans HR2.out)
      have hz3 := hb3.size
      clear hb3 hl3
      go_wp2_with fail
      go_roundw
      case rel =>
        refine ⟨k + 1, by omega, by go_num, ?_, by rw [HLS.out]; exact HR3.out, HB3.out, by omega⟩
        rw [HCAT.out, Num.app_list]
        exact HBL3.out
      case measure => simp [intOf]; omega
    · obtain rfl : k = n := by omega
      have i1 : ¬ (k : Int) < (k : Int) := by omega
      go_wp2_with fail
      refine (bldText w.heap.size w.heap.size _ _ HBL.out hsw).mono ?_; rintro e w4 ⟨rfl, hb4⟩
      rw [ba_list]
      have HB4 := Lib.hid (HB.out.trans (hb4.mono hz0)); clear hb4
      go_wp2_with fail
      go_ret
      exact ⟨rfl, HB4.out⟩
end Go.Proofs.YtfgcgjogaaofdaaGreatDoor
