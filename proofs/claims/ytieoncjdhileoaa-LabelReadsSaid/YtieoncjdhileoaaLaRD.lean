/-
  Labels: what the reference's word comes to.
-/
import Derived.Test.YtieoncjdhileoaaLaRC
import Derived.Test.YtieoncjdhileoaaLaX
namespace Go.Proofs.Ytieoncjdhileoaa
open Go.RowKit
def wordOut : Option (List UInt8 × List UInt8) → Value
  | none => .tuple #[.string ByteArray.empty, .string ByteArray.empty, .bool false]
  | some (v, r) => .tuple #[.string ⟨v.toArray⟩, .string ⟨r.toArray⟩, .bool true]
theorem La.ext_tail (s : ByteArray) (k : Nat) : (s.extract k s.size).data.toList = s.data.toList.drop k := by
  rw [ByteArray.data_extract, Array.toList_extract]
  simp only [List.extract]
  apply List.take_of_length_le
  rw [List.length_drop, ← Lib.size_eq]; omega
theorem La.ext_one (s : ByteArray) (k : Nat) (h : k < s.size) : (s.extract k (k + 1)).data.toList = [s[k]] := by
  have hl : k < s.data.toList.length := by rw [← Lib.size_eq]; exact h
  rw [ByteArray.data_extract, Array.toList_extract]
  simp only [List.extract, Nat.add_sub_cancel_left]
  rw [List.drop_eq_getElem_cons hl]
  rfl

set_option maxRecDepth 100000 in
set_option maxHeartbeats 2000000 in
theorem rWord_any (s : ByteArray) (hs : s.size ≤ 100000) (e : UInt8) (w : World) :
    Calls Try.prog 47 #[.string s, .int .u8 (e.toNat : Int)] w fun r w' => r = .returned (wordOut (La.rword e s.data.toList [])) ∧ Below w.heap.size w w' := by
  generalize hW : La.rword e s.data.toList [] = W
  have HW := Lib.hid hW; have HS := Lib.hid hs; clear hW hs
  have hl : s.data.toList.length = s.size := (Lib.size_eq s).symm
  have hno : ∀ (k : Nat) (T : List UInt8), s.size ≤ k → La.rword e (s.data.toList.drop k) T = none := fun k T h => La.rword_no e _ k T (by omega)
  have hend : ∀ (k : Nat) (T : List UInt8) (h : k < s.size), s[k] = e → La.rword e (s.data.toList.drop k) T = some (T, s.data.toList.drop (k + 1)) := fun k T h h1 => La.rword_end e _ k T (by omega) h1
  have hlast : ∀ (k : Nat) (T : List UInt8) (h : k < s.size), k + 1 = s.size → ¬ s[k] = e → La.rword e (s.data.toList.drop k) T = none := fun k T h h1 h2 => La.rword_last e _ k T (by omega) h2
  have hesc : ∀ (k : Nat) (T : List UInt8) (h0 : k < s.size) (h : k + 1 < s.size), ¬ s[k] = e → s[k] = 92 → La.rword e (s.data.toList.drop k) T = La.rword e (s.data.toList.drop (k + 2)) (T ++ [s[k + 1]]) := fun k T _ h h1 h2 => La.rword_esc e _ k T (by omega) h1 h2
  have hone : ∀ (k : Nat) (T : List UInt8) (h : k < s.size), ¬ s[k] = e → ¬ s[k] = 92 → La.rword e (s.data.toList.drop k) T = La.rword e (s.data.toList.drop (k + 1)) (T ++ [s[k]]) := fun k T h h1 h2 => La.rword_one e _ k T (by omega) h1 h2
  have HNO := Lib.hid hno; have HEND := Lib.hid hend; have HLAST := Lib.hid hlast; have HESC := Lib.hid hesc; have HONE := Lib.hid hone
  clear hno hend hlast hesc hone hl
  go_enter Try.func47, Try.ntmps47
  go_wp2_with fail
  go_loopw [7, 8] (fun u i wr => ∃ (k : Nat) (T : ByteArray), k ≤ s.size + 1 ∧ u = .string T ∧ i = .int .i64 k ∧ La.rword e (s.data.toList.drop k) T.data.toList = W ∧ T.size ≤ k ∧ T.size ≤ s.size ∧ Below w.heap.size w wr) (fun _ i _ => s.size + 1 - (intOf i).toNat)
  case atStart => exact ⟨0, ByteArray.empty, by omega, rfl, rfl, HW.out, Nat.le_refl _, Nat.zero_le _, Below.refl _ _⟩
  case round =>
    obtain ⟨k, T, hk, rfl, rfl, hT, hTk, hTs, hb⟩ := hrel
    have HB := Lib.hid hb; have HT := Lib.hid hT; have HTK := Lib.hid hTk; have HTS := Lib.hid hTs; clear hb hT hTk hTs
    by_cases hlt : k < s.size
    · have i1 : (k : Int) < (s.size : Int) := by omega
      have i0 : (0 : Int) ≤ (k : Int) := by omega
      have h1 := HEND.out k T.data.toList hlt
      have h2 := fun h => HLAST.out k T.data.toList hlt h
      have h3 := fun h => HESC.out k T.data.toList hlt h
      have h4 := HONE.out k T.data.toList hlt
      have h5 := La.ext_one s k hlt
      have h6 := fun h => La.ext_one s (k + 1) h
      rw [HT.out] at h1 h2 h3 h4
      have H1 := Lib.hid h1; have H2 := Lib.hid h2; have H3 := Lib.hid h3; have H4 := Lib.hid h4; have H5 := Lib.hid h5; have H6 := Lib.hid h6
      clear h1 h2 h3 h4 h5 h6
      generalize hz : s[k] = z at *
      have hTm : T.size ≤ 100000 := by have := HTS.out; have := HS.out; omega
      have hkm : k ≤ 100000 := by have := HS.out; omega
      by_cases he : z = e
      · have dz : (((z.toNat : Nat) : Int) == ((e.toNat : Nat) : Int)) = true := by rw [he]; simp
        have hWe := H1.out he
        subst hWe
        have hret : wordOut (some (T.data.toList, s.data.toList.drop (k + 1))) = .tuple #[.string T, .string (s.extract (k + 1) s.size), .bool true] := by
          unfold wordOut
          rw [← La.ext_tail]
        have HRET := Lib.hid hret
        have i2 : (k : Int) + 1 ≤ (s.size : Int) := by omega
        have i3 : (0 : Int) ≤ (k : Int) + 1 := by omega
        clear he hret H1 H2 H3 H4 H5 H6
        go_wp2_with fail
        go_quiet (fail)
        go_wp2_with fail
        go_ret3
        rw [HRET.out]
        exact ⟨rfl, below_drewN HB.out _⟩
      · have dz : (((z.toNat : Nat) : Int) == ((e.toNat : Nat) : Int)) = false := by
          rw [beq_eq_false_iff_ne]; intro h; exact he (UInt8.toNat_inj.1 (by omega))
        by_cases h9 : z = 92
        · have d9 : (((z.toNat : Nat) : Int) == 92) = true := by rw [h9]; rfl
          by_cases hl2 : k + 1 < s.size
          · have hnx := (H3.out hl2) he h9
            have hxo := H6.out hl2
            have HNX := Lib.hid hnx; have HXO := Lib.hid hxo
            generalize s[k + 1] = z2 at *
            have i4 : (k : Int) + 1 < (s.size : Int) := by omega
            have i5 : (0 : Int) ≤ (k : Int) + 1 := by omega
            have i6 : (k : Int) + 1 + 1 ≤ (s.size : Int) := by omega
            have i7 : (k : Int) + 1 ≤ (k : Int) + 1 + 1 := by omega
            clear he h9 hnx hxo H1 H2 H3 H4 H5 H6
            obtain ⟨X, hX⟩ : ∃ X : ByteArray, X = s.extract (k + 1) (k + 1 + 1) := ⟨_, rfl⟩
            have hXs : X.size = 1 := by rw [hX]; simp [ByteArray.size_extract]; omega
            rw [← hX] at HXO
            have z1 : ¬ 9223372036854775807 < T.size + X.size := by omega
            go_wp2_with fail
            go_roundw
            case rel =>
              have hsz := HTS.out
              refine ⟨k + 2, T ++ s.extract (k + 1) (k + 1 + 1), by omega, rfl, by go_num, ?_, ?_, ?_, HB.out⟩
              · rw [Num.app_list, ← hX, HXO.out]; exact HNX.out.symm
              · rw [ByteArray.size_append, ← hX, hXs]; have := HTK.out; omega
              · rw [ByteArray.size_append, ← hX, hXs]; have := HTK.out; omega
            case measure => simp [intOf]; omega
          · have hnx := (H2.out (by omega)) he
            have HNX := Lib.hid hnx
            have i4 : ¬ (k : Int) + 1 < (s.size : Int) := by omega
            clear he h9 hnx H1 H2 H3 H4 H5 H6
            go_wp2_with fail
            go_roundw
            case rel =>
              refine ⟨k + 2, T, by omega, rfl, by go_num, ?_, by have := HTK.out; omega, HTS.out, HB.out⟩
              rw [HNO.out (k + 2) _ (by omega)]; exact HNX.out.symm
            case measure => simp [intOf]; omega
        · have d9 : (((z.toNat : Nat) : Int) == 92) = false := by
            rw [beq_eq_false_iff_ne]; intro h; exact h9 (UInt8.toNat_inj.1 (by have : (92 : UInt8).toNat = 92 := rfl; omega))
          have hnx := H4.out he h9
          have hxo := H5.out
          have HNX := Lib.hid hnx; have HXO := Lib.hid hxo
          have i6 : (k : Int) + 1 ≤ (s.size : Int) := by omega
          have i7 : (k : Int) ≤ (k : Int) + 1 := by omega
          clear he h9 hnx hxo H1 H2 H3 H4 H5 H6
          obtain ⟨X, hX⟩ : ∃ X : ByteArray, X = s.extract k (k + 1) := ⟨_, rfl⟩
          have hXs : X.size = 1 := by rw [hX]; simp [ByteArray.size_extract]; omega
          rw [← hX] at HXO
          have z1 : ¬ 9223372036854775807 < T.size + X.size := by omega
          go_wp2_with fail
          go_roundw
          case rel =>
            have hsz := HTS.out
            refine ⟨k + 1, T ++ s.extract k (k + 1), by omega, rfl, by go_num, ?_, ?_, ?_, HB.out⟩
            · rw [Num.app_list, ← hX, HXO.out]; exact HNX.out.symm
            · rw [ByteArray.size_append, ← hX, hXs]; have := HTK.out; omega
            · rw [ByteArray.size_append, ← hX, hXs]; have := HTK.out; omega
          case measure => simp [intOf]; omega
    · obtain hke : s.size ≤ k := by omega
      have hn := HNO.out k T.data.toList hke
      rw [HT.out] at hn
      subst hn
      have i1 : ¬ (k : Int) < (s.size : Int) := by omega
      go_wp2_with fail
      go_ret3
      exact ⟨rfl, HB.out⟩
end Go.Proofs.Ytieoncjdhileoaa
