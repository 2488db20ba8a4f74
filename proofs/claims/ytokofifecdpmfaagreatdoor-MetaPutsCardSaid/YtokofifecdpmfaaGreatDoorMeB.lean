/-
  What numbers of package meta comes to.
-/
import Derived.Test.YtokofifecdpmfaaGreatDoorMeA
import Derived.Test.YtokofifecdpmfaaGreatDoorBld
namespace Go.Proofs.YtokofifecdpmfaaGreatDoor
open Go.RowKit
theorem Me.nums_take (gen : Int) (L : List Int) (k : Nat) (h : k < L.length) : Me.nums gen ((L.take (k + 1)).map Int.toNat) = Me.nums gen ((L.take k).map Int.toNat) ++ Me.one gen (L.getD k 0).toNat := by
  have htk : L.take (k + 1) = L.take k ++ [L.getD k 0] := by
    rw [List.take_succ_eq_append_getElem h]; simp [List.getD, h]
  rw [htk, List.map_append, List.map_cons, List.map_nil, Me.nums_snoc]

set_option maxRecDepth 100000 in
set_option maxHeartbeats 4000000 in
theorem numbers_any (gen : Int) (A : Option Addr) (n c : Nat) (L : List Int) (hn : n = L.length) (hL : L.length ≤ 1000) (hr : ∀ x ∈ L, 0 ≤ x ∧ x ≤ 1099511627776) (w : World) (hA : IRow w A L) :
    Calls Tryz.prog 21 #[.int .i64 gen, .slice A n c] w fun e w' => e = .returned (.string (Me.nums gen (L.map Int.toNat))) ∧ Below w.heap.size w w' := by
  have HA := Lib.hid hA; have HR := Lib.hid hr; have HN := Lib.hid hn; clear hA hr
  have hn2 : n ≤ 1000 := by omega
  clear hn hL
  have hnew := BldAt.new w
  have hb0 : Below w.heap.size w (w.alloc (.cells #[.pointer none, .slice none 0 0] 74)) := (Below.refl _ _).alloc (Nat.le_refl _) _
  have HNEW := Lib.hid hnew; have HB0 := Lib.hid hb0; clear hnew hb0
  go_enter Tryz.func21, Tryz.ntmps21
  go_wp2_with fail
  go_loopw [7, 10] (fun _ i wr => ∃ k : Nat, k ≤ n ∧ i = .int .i64 k ∧ BldAt wr w.heap.size w.heap.size (Me.nums gen ((L.take k).map Int.toNat)).data.toList ∧ Below w.heap.size w wr) (fun _ i _ => n - (intOf i).toNat)
  case atStart => exact ⟨0, by omega, rfl, HNEW.out, HB0.out⟩
  case round =>
    obtain ⟨k, hk, rfl, hbl, hb⟩ := hrel
    have HB := Lib.hid hb; have HBL := Lib.hid hbl; clear hb hbl HNEW HB0
    by_cases hlt : k < n
    · have hlen : k < L.length := by have := HN.out; omega
      obtain ⟨ad, rfl, hadlt, hc⟩ := (HA.out.later HB.out) (by omega)
      have x0 := hc k hlen
      have hxr := HR.out (L.getD k 0) (by simp [List.getD, hlen])
      have hnx := Me.nums_take gen L k hlen
      have hsz : (Me.nums gen ((L.take k).map Int.toNat)).data.toList.length ≤ 10010 := by
        have h1 := Me.nums_size gen ((L.take k).map Int.toNat)
        have h2 : ((L.take k).map Int.toNat).length ≤ 1000 := by rw [List.length_map, List.length_take]; omega
        have h3 : (Me.nums gen ((L.take k).map Int.toNat)).data.toList.length = (Me.nums gen ((L.take k).map Int.toNat)).size := by simp
        omega
      have HNX := Lib.hid hnx; clear hc hadlt hnx hlen
      generalize Me.nums gen ((L.take k).map Int.toNat) = acc at *
      generalize L.getD k 0 = x at *
      obtain ⟨v, rfl⟩ : ∃ v : Nat, x = v := ⟨x.toNat, by omega⟩
      have hv : v < 18446744073709551616 := by omega
      have hwr : IntKind.u64.wrap (v : Int) = (v : Int) := by rw [IntKind.wrap_u64]; omega
      have hone := Me.one_size gen ((v : Int).toNat)
      rw [Int.toNat_natCast] at HNX hone
      have i1 : (k : Int) < (n : Int) := by omega
      have i0 : (0 : Int) ≤ (k : Int) := by omega
      have HV := Lib.hid hv
      by_cases h1 : gen = 1
      · have d1 : (gen == 1) = true := by simpa using h1
        have hone2 : Me.one gen v = Num.wideB v := by unfold Me.one; rw [if_pos h1]
        rw [hone2] at HNX hone
        clear h1 hone2 hv hxr
        have HW := Lib.hid (Wide_any v)
        generalize Num.wideB v = s at *
        go_wp2_with fail
        refine (HW.out _).mono ?_; rintro e w2 ⟨rfl, hb2⟩
        have HB2 := Lib.hid (below_step HB.out hb2); have HBL2 := Lib.hid (HBL.out.keep hb2); clear hb2
        go_wp2_with fail
        refine (bldString w.heap.size w.heap.size acc.data.toList s _ HBL2.out (by omega) HB2.out.size).mono ?_; rintro e w3 ⟨rfl, hl3, hb3, -⟩
        have HB3 := Lib.hid (HB2.out.trans hb3); have HBL3 := Lib.hid hl3; clear hb3 hl3
        go_wp2_with fail
        go_roundw
        case rel =>
          refine ⟨k + 1, by omega, by go_num, ?_, HB3.out⟩
          rw [HNX.out, Num.app_list]; exact HBL3.out
        case measure => simp [intOf]; omega
      · have d1 : (gen == 1) = false := by simpa using h1
        have hone2 : Me.one gen v = Num.smallB v := by unfold Me.one; rw [if_neg h1]
        rw [hone2] at HNX hone
        clear h1 hone2 hv hxr
        have HW := Lib.hid (Small_any v HV)
        generalize Num.smallB v = s at *
        go_wp2_with fail
        refine (HW.out _).mono ?_; rintro e w2 ⟨rfl, hb2⟩
        have HB2 := Lib.hid (below_step HB.out hb2); have HBL2 := Lib.hid (HBL.out.keep hb2); clear hb2
        go_wp2_with fail
        refine (bldString w.heap.size w.heap.size acc.data.toList s _ HBL2.out (by omega) HB2.out.size).mono ?_; rintro e w3 ⟨rfl, hl3, hb3, -⟩
        have HB3 := Lib.hid (HB2.out.trans hb3); have HBL3 := Lib.hid hl3; clear hb3 hl3
        go_wp2_with fail
        go_roundw
        case rel =>
          refine ⟨k + 1, by omega, by go_num, ?_, HB3.out⟩
          rw [HNX.out, Num.app_list]; exact HBL3.out
        case measure => simp [intOf]; omega
    · have e : L.take k = L := List.take_of_length_le (by have := HN.out; omega)
      rw [e] at HBL
      generalize hac : Me.nums gen (L.map Int.toNat) = acc at *
      have HAC := Lib.hid hac; clear hac e
      go_wp2_with fail
      refine (bldText w.heap.size w.heap.size _ _ HBL.out HB.out.size).mono ?_; rintro e w4 ⟨rfl, hb4⟩
      have HB4 := Lib.hid (HB.out.trans hb4); clear hb4
      go_wp2_with fail
      go_ret
      exact ⟨by rw [HAC.out]; rfl, HB4.out⟩
end Go.Proofs.YtokofifecdpmfaaGreatDoor
