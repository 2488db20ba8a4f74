/-
  A series as bytes: the walk.
-/
import Derived.Test.YtaillfnmaiiapaaWaN
import Derived.Test.YtaillfnmaiiapaaFrC
namespace Go.Proofs.Ytaillfnmaiiapaa
open Go.RowKit
theorem zeroInt (w : World) : (zeroValue 3).run Try.prog w = .ok (.int .i64 0) w := by kernel_rfl
set_option maxRecDepth 100000 in
set_option maxHeartbeats 2000000 in
theorem series_any {w : World} {base nb mb : Nat} {v : Value} {K : List ByteArray} (h : NamesIn w base nb mb v K) (hK : K.length ≤ 900000) (l : List Lab) (A : Option Addr) (c : Nat) (hA : LabRow w A l.length (La.at_ l)) (hln : l.length ≤ 10) (hls : ∀ i, i < l.length → (La.at_ l i).1.size ≤ 300 ∧ (La.at_ l i).2.size ≤ 300) :
    Calls Try.prog 89 #[.pointer (some ⟨nb, 0, none⟩), .slice A l.length c] w fun e w' => e = .returned (.string (Wa.ser K l).1) ∧ ∃ v', NamesIn w' base nb mb v' (Wa.ser K l).2 ∧ NKeeps mb w w' ∧ Below base w w' := by
  have hkey := Key_any A l.length c (by omega) (La.at_ l) hls w hA
  have hkz : (Wa.key l).size ≤ 6200 := by
    have h1 := La.key_length (La.at_ l) l.length hls
    have h2 : (Wa.key l).size = (La.key (La.at_ l) l.length).length := by unfold Wa.key La.keyB; rw [Lib.size_eq]
    omega
  have hke : La.keyB (La.at_ l) l.length = Wa.key l := rfl
  rw [hke] at hkey
  have hser : Wa.ser K l = match Wa.place K (Wa.key l) with
    | some i => (Num.smallB i, K)
    | none => (Num.smallB K.length ++ Fr.txt (Wa.key l), K ++ [Wa.key l]) := rfl
  rw [hser]
  clear hser hke hA hls
  generalize Wa.key l = k at *
  have HK := Lib.hid hkey; have H := Lib.hid h
  have hlo := h.nlo; have hsz := (Array.getElem?_eq_some_iff.1 h.cells).1
  clear hkey h
  cases hp : Wa.place K k with
  | some i =>
    obtain ⟨hi, -⟩ := Wa.place_some hp
    dsimp only
    have HS := Lib.hid (fun W => Small_any i (Lib.hid (by omega)) W)
    go_enter Try.func89, Try.ntmps89
    go_wp2_with fail
    refine HK.out.mono ?_; rintro e w1 ⟨rfl, hb1⟩
    have h1 := H.out.later hb1
    have hx1 := h1.cells
    have c1 := cell_of_row _ _ 1 _ _ _ hx1
    simp only [List.getElem?_toArray, List.getElem?_cons_zero, List.getElem?_cons_succ] at c1
    have hlook := h1.map.look_some (t := 76) (e := 3) true wlaw Try.underlying76 (key := .string k) (v := .int .i64 (i : Int)) (wkey (by unfold maxLen; omega)) (by rw [placeF_str, hp]; rfl)
    have H1 := Lib.hid h1; have HB1 := Lib.hid hb1
    clear h1 hb1 hx1
    have i0 : (0 : Int) ≤ (i : Int) := Int.natCast_nonneg _
    have hw : IntKind.u64.wrap (i : Int) = ((i : Nat) : Int) := by rw [IntKind.wrap_u64]; omega
    go_wp2_with fail
    refine (HS.out _).mono ?_; rintro e w2 ⟨rfl, hb2⟩
    have H2 := Lib.hid (H1.out.later hb2); have HB2 := Lib.hid (below_step HB1.out hb2)
    clear hb2
    go_wp2_with fail
    go_ret
    exact ⟨rfl, _, H2.out, NKeeps.below HB2.out, HB2.out.mono (by omega)⟩
  | none =>
    dsimp only
    have HS := Lib.hid (fun W => Small_any K.length (Lib.hid (by omega)) W)
    have HT := Lib.hid (fun W => TextW_any k (by omega) W)
    have hkl : (K ++ [k]).length = K.length + 1 := by simp
    have hz1 := Fr.small_le K.length
    have hz2 := Fr.txt_size k
    have hz3 := Fr.small_le k.size
    go_enter Try.func89, Try.ntmps89
    go_wp2_with fail
    refine HK.out.mono ?_; rintro e w1 ⟨rfl, hb1⟩
    have h1 := H.out.later hb1
    have hx1 := h1.cells
    have c1 := cell_of_row _ _ 1 _ _ _ hx1
    simp only [List.getElem?_toArray, List.getElem?_cons_zero, List.getElem?_cons_succ] at c1
    have hlook := h1.map.look_none (t := 76) (e := 3) true wlaw Try.underlying76 (key := .string k) (zeroInt w1) (wkey (by unfold maxLen; omega)) (by rw [placeF_str, hp]; rfl)
    have H1 := Lib.hid h1; have HB1 := Lib.hid hb1
    have HAD := Lib.hid (add_any h1 hK k (by unfold maxLen; omega) hp)
    clear h1 hb1 hx1
    go_wp2_with fail
    refine HAD.out.mono ?_; rintro e w2 ⟨rfl, v2, h2, hk2, hb2⟩
    have HB2 : Hid (Below base w w2) := Lib.hid ((HB1.out.mono (by omega)).trans hb2)
    have HK2 := Lib.hid ((NKeeps.below (mb := mb) HB1.out).trans hk2)
    obtain ⟨A2, c2, rfl, -⟩ := own_row h2.keys
    have hx2 := h2.cells
    have d0 := cell_of_row _ _ 0 _ _ _ hx2
    simp only [List.getElem?_toArray, List.getElem?_cons_zero] at d0
    rw [hkl] at d0
    have H2 := Lib.hid h2
    clear h2 hk2 hb2 hx2 c1 hlook
    have s1 : IntKind.i64.wrap (((K.length + 1 : Nat) : Int) - 1) = (K.length : Int) := by rw [IntWalk.i64_in _ (by omega)]; omega
    have s2 : wrap64 (((K.length + 1 : Nat) : Int) - 1) = (K.length : Int) := by rw [IntWalk.wrap64_in _ ⟨by omega, by omega⟩]; omega
    have i0 : (0 : Int) ≤ (K.length : Int) := Int.natCast_nonneg _
    have hw : IntKind.u64.wrap (K.length : Int) = ((K.length : Nat) : Int) := by rw [IntKind.wrap_u64]; omega
    go_wp2_with fail
    refine (HS.out _).mono ?_; rintro e w3 ⟨rfl, hb3⟩
    have H3 := Lib.hid (H2.out.later hb3)
    have HK3 := Lib.hid (HK2.out.trans (NKeeps.below (mb := mb) hb3))
    have HB3 : Hid (Below base w w3) := Lib.hid (HB2.out.trans (hb3.mono (by have := HB2.out.size; omega)))
    clear hb3 d0
    go_wp2_with fail
    refine (HT.out _).mono ?_; rintro e w4 ⟨rfl, hb4⟩
    have H4 := Lib.hid (H3.out.later hb4)
    have HK4 := Lib.hid (HK3.out.trans (NKeeps.below (mb := mb) hb4))
    have HB4 : Hid (Below base w w4) := Lib.hid (HB3.out.trans (hb4.mono (by have := HB3.out.size; omega)))
    clear hb4
    have hsum : ¬ 9223372036854775807 < (Num.smallB K.length).size + (Fr.txt k).size := by omega
    go_wp2_with fail
    go_ret
    exact ⟨rfl, _, H4.out, HK4.out, HB4.out⟩
end Go.Proofs.Ytaillfnmaiiapaa
