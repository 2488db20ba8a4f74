import Derived.Test.YtfibapfehgglhaaGreatDoorBld
import Derived.Test.YtfibapfehgglhaaGreatDoorFrH
/-
  What numbers of package meta comes to.
-/
namespace Go.Proofs.YtfibapfehgglhaaGreatDoor
open Go.RowKit
theorem Me.nums_take (gen : Int) (L : List Int) (k : Nat) (h : k < L.length) : Me.nums gen ((L.take (k + 1)).map Int.toNat) = Me.nums gen ((L.take k).map Int.toNat) ++ Me.one gen (L.getD k 0).toNat := by
  have htk : L.take (k + 1) = L.take k ++ [L.getD k 0] := by
    rw [List.take_succ_eq_append_getElem h]; simp [List.getD, h]
  rw [htk, List.map_append, List.map_cons, List.map_nil, Me.nums_snoc]

set_option maxRecDepth 100000 in
set_option maxHeartbeats 4000000 in
theorem numbers_any (gen : Int) (A : Option Addr) (n c : Nat) (L : List Int) (hn : n = L.length) (hL : L.length ≤ 1000) (hr : ∀ x ∈ L, 0 ≤ x ∧ x ≤ 1099511627776) (w : World) (hA : IRow w A L) :
    Calls Tryz.prog 107 #[.int .i64 gen, .slice A n c] w fun e w' => e = .returned (.string (Me.nums gen (L.map Int.toNat))) ∧ Below w.heap.size w w' := by
  have HA := Lib.hid hA; have HR := Lib.hid hr; have HN := Lib.hid hn; clear hA hr
  have hn2 : n ≤ 1000 := by omega
  clear hn hL
  have hnew := BldAt.new w
  have hb0 : Below w.heap.size w (w.alloc (.cells #[.pointer none, .slice none 0 0] 250)) := (Below.refl _ _).alloc (Nat.le_refl _) _
  have HNEW := Lib.hid hnew; have HB0 := Lib.hid hb0; clear hnew hb0
  go_enter Tryz.func107, Tryz.ntmps107
  go_wp2_with fail
  go_loopw [7, 10] (fun _ i wr => ∃ k : Nat, k ≤ n ∧ i = .int .i64 k ∧ BldAt wr w.heap.size w.heap.size (Me.nums gen ((L.take k).map Int.toNat)).data.toList ∧ Below w.heap.size w wr) (fun _ i _ => n - (intOf i).toNat)
  case atStart => exact ⟨0, by omega, rfl, HNEW.out, HB0.out⟩
  case round =>
    obtain ⟨k, hk, rfl, hbl, hb⟩ := hrel
    have HB := Lib.hid hb; have HBL := Lib.hid hbl; clear hb hbl HNEW HB0
    by_cases hlt : k < n
    · have hlen : k < L.length := by have := HN.out; omega
      obtain ⟨ad, rfl, hadlt, hc⟩ := (HA.out.later HB.out) (by omega)
      have x0 := hc k hlen
      have hxr := HR.out (L.getD k 0) (by simp [List.getD, hlen])
      have hnx := Me.nums_take gen L k hlen
      have hsz : (Me.nums gen ((L.take k).map Int.toNat)).data.toList.length ≤ 10010 := by
        have h1 := Me.nums_size gen ((L.take k).map Int.toNat)
        have h2 : ((L.take k).map Int.toNat).length ≤ 1000 := by rw [List.length_map, List.length_take]; omega
        have h3 : (Me.nums gen ((L.take k).map Int.toNat)).data.toList.length = (Me.nums gen ((L.take k).map Int.toNat)).size := by simp
        omega
      have HNX := Lib.hid hnx; clear hc hadlt hnx hlen
      generalize Me.nums gen ((L.take k).map Int.toNat) = acc at *
      generalize L.getD k 0 = x at *
      obtain ⟨v, rfl⟩ : ∃ v : Nat, x = v := ⟨x.toNat, by omega⟩
      have hv : v < 18446744073709551616 := by omega
      have hwr : IntKind.u64.wrap (v : Int) = (v : Int) := by rw [IntKind.wrap_u64]; omega
      have hone := Me.one_size gen ((v : Int).toNat)
      rw [Int.toNat_natCast] at HNX hone
      have i1 : (k : Int) < (n : Int) := by omega
      have i0 : (0 : Int) ≤ (k : Int) := by omega
      have HV := Lib.hid hv
      by_cases h1 : gen = 1
      · have d1 : (gen == 1) = true := by simpa using h1
        have hone2 : Me.one gen v = Num.wideB v := by unfold Me.one; rw [if_pos h1]
        rw [hone2] at HNX hone
        clear h1 hone2 hv hxr
        have HW := Lib.hid (Wide_any v)
        generalize Num.wideB v = s at *
        go_wp2_with fail
        refine (HW.out _).mono ?_; rintro e w2 ⟨rfl, hb2⟩
        have HB2 := Lib.hid (below_step HB.out hb2); have HBL2 := Lib.hid (HBL.out.keep hb2); clear hb2
        go_wp2_with fail
        refine (bldString w.heap.size w.heap.size acc.data.toList s _ HBL2.out (by omega) HB2.out.size).mono ?_; rintro e w3 ⟨rfl, hl3, hb3, -⟩
        have HB3 := Lib.hid (HB2.out.trans hb3); have HBL3 := Lib.hid hl3; clear hb3 hl3
        go_wp2_with fail
        go_roundw
        case rel =>
          refine ⟨k + 1, by omega, by go_num, ?_, HB3.out⟩
          rw [HNX.out, Num.app_list]; exact HBL3.out
        case measure => simp [intOf]; omega
      · have d1 : (gen == 1) = false := by simpa using h1
        have hone2 : Me.one gen v = Num.smallB v := by unfold Me.one; rw [if_neg h1]
        rw [hone2] at HNX hone
        clear h1 hone2 hv hxr
        have HW := Lib.hid (Small_any v HV)
        generalize Num.smallB v = s at *
        go_wp2_with fail
        refine (HW.out _).mono ?_; rintro e w2 ⟨rfl, hb2⟩
        have HB2 := Lib.hid (below_step HB.out hb2); have HBL2 := Lib.hid (HBL.out.keep hb2); clear hb2
        go_wp2_with fail
        refine (bldString w.heap.size w.heap.size acc.data.toList s _ HBL2.out (by omega) HB2.out.size).mono ?_; rintro e w3 ⟨rfl, hl3, hb3, -⟩
        have HB3 := Lib.hid (HB2.out.trans hb3); have HBL3 := Lib.hid hl3; clear hb3 hl3
        go_wp2_with fail
        go_roundw
        case rel =>
          refine ⟨k + 1, by omega, by go_num, ?_, HB3.out⟩
          rw [HNX.out, Num.app_list]; exact HBL3.out
        case measure => simp [intOf]; omega
    · have e : L.take k = L := List.take_of_length_le (by have := HN.out; omega)
      rw [e] at HBL
      generalize hac : Me.nums gen (L.map Int.toNat) = acc at *
      have HAC := Lib.hid hac; clear hac e
      go_wp2_with fail
      refine (bldText w.heap.size w.heap.size _ _ HBL.out HB.out.size).mono ?_; rintro e w4 ⟨rfl, hb4⟩
      have HB4 := Lib.hid (HB.out.trans hb4); clear hb4
      go_wp2_with fail
      go_ret
      exact ⟨by rw [HAC.out]; rfl, HB4.out⟩
end Go.Proofs.YtfibapfehgglhaaGreatDoor
/-
  What Put of package meta comes to.
-/
namespace Go.Proofs.YtfibapfehgglhaaGreatDoor
open Go.RowKit
namespace Me
/-- of blocks the numbers that are put, as integers -/
def tellsI (m : M) : List Int := (tells m.gen 0 m.bs).map fun n : Nat => (n : Int)
def headI (m : M) : List Int := [m.next, if m.gen = 3 then m.next - m.wal else m.wal, (m.bs.length : Nat)]
theorem tellsI_length (m : M) : (tellsI m).length = m.bs.length := by simp [tellsI, tells_length]
theorem tellsI_take (m : M) (h : valid m = true) (k : Nat) (hk : k < m.bs.length) :
    (tellsI m).take (k + 1) = (tellsI m).take k ++ [if m.gen = 3 then ((Num.zig (m.bs.getD k 0 - ahead m.bs k) : Nat) : Int) else m.bs.getD k 0] := by
  have h1 := tells_take m.gen m.bs 0 k hk
  have hx := valid_mem h (m.bs.getD k 0) (by simp [List.getD, hk])
  unfold tellsI ahead
  rw [← List.map_take, h1, List.map_append, List.map_take]
  congr 1
  by_cases h3 : m.gen = 3
  · simp only [if_pos h3, List.map_cons, List.map_nil]
  · simp only [if_neg h3, List.map_cons, List.map_nil]
    rw [show (((m.bs.getD k 0).toNat : Nat) : Int) = m.bs.getD k 0 from by omega]
theorem zig_small (n : Int) (h0 : -999999 ≤ n) (h1 : n ≤ 999999) : Num.zig n ≤ 1999998 := by
  unfold Num.zig; split <;> omega
theorem ahead_bound (m : M) (h : valid m = true) (k : Nat) (hk : k ≤ m.bs.length) : 0 ≤ ahead m.bs k ∧ ahead m.bs k ≤ 999999 := by
  have o := valid_okay h
  unfold okay at o
  unfold ahead
  split
  · omega
  · have hx := valid_mem h (m.bs.getD (k - 1) 0) (by simp [List.getD, show k - 1 < m.bs.length by omega])
    omega
theorem code_ints (m : M) (h : valid m = true) : (headI m ++ tellsI m).map Int.toNat = code m := by
  obtain ⟨o1, o2, o3, o4, o5⟩ := valid_okay h
  simp [headI, tellsI, code, head3, List.map_map, Function.comp_def]
theorem tells_bound (gen : Int) : ∀ (l : List Int) (last : Int), (∀ x ∈ l, 0 ≤ x ∧ x ≤ 999999) → 0 ≤ last → last ≤ 999999 → ∀ n ∈ tells gen last l, n ≤ 1999998
  | [], _, _, _, _, n, hn => by simp [tells] at hn
  | b :: l, last, hm, h0, h1, n, hn => by
    have hb := hm b (List.mem_cons_self ..)
    simp only [tells, List.mem_cons] at hn
    rcases hn with rfl | hn
    · split
      · exact zig_small _ (by omega) (by omega)
      · omega
    · exact tells_bound gen l b (fun x hx => hm x (List.mem_cons_of_mem _ hx)) hb.1 hb.2 n hn
theorem ints_bound (m : M) (h : valid m = true) : ∀ x ∈ headI m ++ tellsI m, 0 ≤ x ∧ x ≤ 1099511627776 := by
  obtain ⟨o1, o2, o3, o4, o5⟩ := valid_okay h
  obtain ⟨w1, w2⟩ := valid_wal h
  intro x hx
  rw [List.mem_append] at hx
  rcases hx with hx | hx
  · simp only [headI, List.mem_cons, List.not_mem_nil, or_false] at hx
    rcases hx with rfl | rfl | rfl
    · omega
    · split <;> omega
    · omega
  · simp only [tellsI, List.mem_map] at hx
    obtain ⟨n, hn, rfl⟩ := hx
    have := tells_bound m.gen m.bs 0 (fun y hy => by have := valid_mem h y hy; omega) (by omega) (by omega) n hn
    omega
def putB (m : M) : ByteArray := if valid m = true then bytes m else ByteArray.empty
def putE (m : M) : Nat := if valid m = true then 0 else 1
end Me
theorem mown_row {w : World} {base g : Nat} {L : List Int} (hb : base ≤ g) (hL : L.length ≤ 1000) (h : w.heap[g]? = some (.cells (ivals L).toArray 3 (0, 0))) :
    w.ownsRow base 3 1 (.slice (some ⟨g, 0, none⟩) L.length L.length) L.length (ivals L) :=
  ⟨by rw [ivals_length]; omega, .inr ⟨g, L.length, (ivals L).toArray, rfl, hb, h, Nat.le_refl _, by unfold maxLen; omega, by simp [ivals_length], by rw [Nat.mul_one]; exact List.take_of_length_le (by rw [ivals_length]; exact Nat.le_refl _)⟩⟩
theorem ints_made (w : World) (x : Int) : Ints (w.alloc (.cells #[.int .i64 x] 3)) (some ⟨w.heap.size, 0, none⟩) 1 [x] :=
  ⟨fun _ => ⟨⟨w.heap.size, 0, none⟩, rfl, by simp, fun i hi => by
    obtain rfl : i = 0 := by simpa using hi
    exact cell_of_row _ w.heap.size 0 _ _ _ (heap_alloc_new w _)⟩, (fun h => by cases h), Nat.le_refl _⟩
/-- what Put holds on to -/
structure PHeld (w : World) (A : Option Addr) (L : List Int) (W : World) : Prop where
  row : IRow W A L
  bel : Below w.heap.size w W
theorem PHeld.drew {w : World} {A : Option Addr} {L : List Int} {W : World} (h : PHeld w A L W) : PHeld w A L W.drew := ⟨h.row, h.bel.drew⟩
theorem PHeld.later {w : World} {A : Option Addr} {L : List Int} {W W2 : World} (h : PHeld w A L W) (hb : Below W.heap.size W W2) : PHeld w A L W2 := ⟨h.row.later hb, below_step h.bel hb⟩

set_option maxRecDepth 100000 in
set_option maxHeartbeats 4000000 in
theorem MPut_any (m : Me.M) (A : Option Addr) (c : Nat) (hl : m.bs.length ≤ 700) (w : World) (hA : Ints w A c m.bs) :
    Calls Tryz.prog 62 #[.agg #[.int .i64 m.gen, .int .i64 m.next, .int .i64 m.wal, .slice A m.bs.length c]] w fun e w' => e = .returned (.tuple #[.string (Me.putB m), .int .i64 (Me.putE m : Nat)]) ∧ Below w.heap.size w w' := by
  have hm1 : MetaAt w.heap.size m A c (w.alloc (.cells #[.int .i64 m.gen, .int .i64 m.next, .int .i64 m.wal, .slice A m.bs.length c] 54)) := heap_alloc_new _ _
  have hb1 : Below w.heap.size w (w.alloc (.cells #[.int .i64 m.gen, .int .i64 m.next, .int .i64 m.wal, .slice A m.bs.length c] 54)) := (Below.refl _ w).alloc (Nat.le_refl _) _
  have ha1 := hA.later hb1
  obtain ⟨c0, c1, c2, c3⟩ := hm1.cells
  have HVA := Lib.hid (fun W h => Valid_any m A c hl W h)
  have HM := Lib.hid hm1; have HB := Lib.hid hb1; have HA := Lib.hid ha1
  clear hm1 hb1 ha1 hA
  generalize hw1 : w.alloc (.cells #[.int .i64 m.gen, .int .i64 m.next, .int .i64 m.wal, .slice A m.bs.length c] 54) = w1 at *
  cases hv : Me.valid m
  · have e1 : Me.putB m = ByteArray.empty := by unfold Me.putB; rw [hv]; rfl
    have e2 : Me.putE m = 1 := by unfold Me.putE; rw [hv]; rfl
    rw [e1, e2]
    rw [hv] at HVA
    clear e1 e2 hv
    go_enter Tryz.func62, Tryz.ntmps62
    go_wp2_with fail
    refine (HVA.out _ HA.out).mono ?_; rintro e w2 ⟨rfl, hb2⟩
    have HB2 := Lib.hid (below_step HB.out hb2); clear hb2
    go_wp2_with fail
    go_ret2
    exact ⟨rfl, HB2.out⟩
  · have e1 : Me.putB m = Me.bytes m := by unfold Me.putB; rw [hv]; rfl
    have e2 : Me.putE m = 0 := by unfold Me.putE; rw [hv]; rfl
    rw [e1, e2]
    rw [hv] at HVA
    have o := Me.valid_okay hv
    obtain ⟨o1, o2, o3, o4, o5⟩ := o
    obtain ⟨x1, x2⟩ := Me.valid_wal hv
    have HV := Lib.hid hv
    clear e1 e2 hv
    have hsub : IntKind.i64.wrap (m.next - m.wal) = m.next - m.wal := IntWalk.i64_in _ (by omega)
    have hsub2 : wrap64 (m.next - m.wal) = m.next - m.wal := IntWalk.wrap64_in _ ⟨by omega, by omega⟩
    go_enter Tryz.func62, Tryz.ntmps62
    go_wp2_with fail
    refine (HVA.out _ HA.out).mono ?_; rintro e w2 ⟨rfl, hb2⟩
    have HB2 := Lib.hid (below_step HB.out hb2); have HM2 := Lib.hid (HM.out.later hb2); have HA2 := Lib.hid (HA.out.later hb2); clear hb2 c0 c1 c2 c3
    obtain ⟨c0, c1, c2, c3⟩ := HM2.out.cells
    have hal : Below w2.heap.size w2 (w2.alloc (.cells #[.int .i64 m.next, .int .i64 m.wal, .int .i64 (m.bs.length : Nat)] 3)) := (Below.refl _ w2).alloc (Nat.le_refl _) _
    have hr3 : RowIs (w2.alloc (.cells #[.int .i64 m.next, .int .i64 m.wal, .int .i64 (m.bs.length : Nat)] 3)) w2.heap.size (.cells #[.int .i64 m.next, .int .i64 m.wal, .int .i64 (m.bs.length : Nat)] 3) := RowIs.one _ _
    have HAL := Lib.hid hal; have HM3 := Lib.hid (HM2.out.later hal); have HR3 := Lib.hid hr3
    have hbg : w.heap.size < w2.heap.size := HM2.out.lt
    clear hal hr3
    generalize hw3 : w2.alloc (.cells #[.int .i64 m.next, .int .i64 m.wal, .int .i64 (m.bs.length : Nat)] 3) = w3 at *
    obtain ⟨d0, d1, d2, d3⟩ := HM3.out.cells
    go_upto_if 21 with fail
    clear c0 c1 c2 c3
    go_cut [4] (fun v4 wx => v4 = .slice (some ⟨w2.heap.size, 0, none⟩) 3 3 ∧ RowIs wx w2.heap.size (.cells (ivals (Me.headI m)).toArray 3) ∧ Below w2.heap.size w2 wx)
    case first =>
      by_cases h3 : m.gen = 3
      · have g3 : (m.gen == 3) = true := by simpa using h3
        have hset : RowIs (w3.setCell ⟨w2.heap.size, 1, none⟩ (.int .i64 (m.next - m.wal))) w2.heap.size (.cells (ivals (Me.headI m)).toArray 3) := by
          have h := heap_setCell_same w3 w2.heap.size 1 _ _ (.int .i64 (m.next - m.wal)) HR3.out
          unfold Me.headI; rw [if_pos h3]; exact h
        have hbx : Below w2.heap.size w2 (w3.setCell ⟨w2.heap.size, 1, none⟩ (.int .i64 (m.next - m.wal))) := HAL.out.grown (grown_setCell w3 w2.heap.size 1 _) HAL.out.size (fun r e => by cases e; exact Nat.le_refl _)
        have x0 : w3.cell? ⟨w2.heap.size, 1, none⟩ = some (.int .i64 m.wal) := cell_of_row _ _ _ _ _ _ HR3.out
        have x1 : w3.frozen? ⟨w2.heap.size, 1, none⟩ = false := frozen_of_row _ _ _ _ _ HR3.out
        have HS := Lib.hid hset; have HX := Lib.hid hbx
        clear h3 hset hbx
        go_wp2_with fail
        go_meet
        exact ⟨rfl, HS.out, HX.out⟩
      · have g3 : (m.gen == 3) = false := by simpa using h3
        have hset : RowIs w3 w2.heap.size (.cells (ivals (Me.headI m)).toArray 3) := by
          have h := HR3.out
          unfold Me.headI; rw [if_neg h3]; exact h
        have HS := Lib.hid hset
        clear h3 hset
        go_wp2_with fail
        go_meet
        exact ⟨rfl, HS.out, HAL.out⟩
    case rest =>
      obtain ⟨rfl, hrow, hbx⟩ := hcut
      have hown0 : wc.ownsRow w2.heap.size 3 1 (.slice (some ⟨w2.heap.size, 0, none⟩) 3 3) 3 (ivals (Me.headI m)) := mown_row (Nat.le_refl _) (by simp [Me.headI]) hrow
      have HX := Lib.hid hbx; have HO := Lib.hid hown0
      have hm4 := HM2.out.later hbx
      obtain ⟨c0, c1, c2, c3⟩ := hm4.cells
      clear d0 d1 d2 d3 hrow hbx hown0 hm4 hsub hsub2 hw3 HR3 HAL HM3
      have hTK := Me.tellsI_take m HV.out
      have hTL := Me.tellsI_length m
      have hab := Me.ahead_bound m HV.out
      have hmem := Me.valid_mem HV.out
      have hah : ∀ k, Me.ahead m.bs (k + 1) = m.bs.getD k 0 := fun k => by unfold Me.ahead; rw [if_neg (by omega)]; rfl
      have HTK := Lib.hid hTK; have HTL := Lib.hid hTL; have HAB := Lib.hid hab; have HMEM := Lib.hid hmem; have HAH := Lib.hid hah
      have hin := Me.ints_bound m HV.out
      have hci := Me.code_ints m HV.out
      have hbz := Me.body_size m o5
      have hH3 : (Me.headI m).length = 3 := rfl
      have HIN := Lib.hid hin; have HCI := Lib.hid hci; have HBZ := Lib.hid hbz; have HH3 := Lib.hid hH3
      clear hTK hTL hab hmem hah hin hci hbz hH3
      generalize Me.tellsI m = T at *
      generalize Me.headI m = H at *
      generalize hp : w2.heap.size = p at *
      go_wp2_with fail
      go_loopw [4, 5, 7, 32] (fun v4 v5 _ i wr => ∃ k : Nat, k ≤ m.bs.length ∧ i = .int .i64 k ∧ v5 = .int .i64 (Me.ahead m.bs k) ∧ wr.ownsRow p 3 1 v4 (3 + k) (ivals (H ++ T.take k)) ∧ Below p w2 wr) (fun _ _ _ i _ => m.bs.length - (intOf i).toNat)
      case atStart => exact ⟨0, by omega, rfl, rfl, by simpa using HO.out, HX.out⟩
      case round =>
        obtain ⟨k, hk, rfl, rfl, hown, hb⟩ := hrel
        have hb0 := hb
        rw [← hp] at hb0
        have hm5 := HM2.out.later hb0
        have ha5 := HA2.out.later hb0
        have hbw := below_step HB2.out hb0
        have hps : p ≤ wr.heap.size := by have := hb.size; omega
        clear c0 c1 c2 c3
        obtain ⟨c0, c1, c2, c3⟩ := hm5.cells
        have HOW := Lib.hid hown; have HB5 := Lib.hid hb; have HA5 := Lib.hid ha5; have HBW := Lib.hid hbw
        clear hown hb hb0 hm5 ha5 hbw
        by_cases hlt : k < m.bs.length
        · obtain ⟨ad, rfl, -, hc⟩ := HA5.out.row (by omega)
          have x0 := hc k hlt
          have hxb := HMEM.out (m.bs.getD k 0) (by simp [List.getD, hlt])
          have hac := HAB.out k hk
          have hnx := HTK.out k hlt
          have hah := HAH.out k
          have hLn : (H ++ T.take k).length = 3 + k := by have := HH3.out; have := HTL.out; rw [List.length_append, List.length_take]; omega
          have HNX := Lib.hid hnx; have HAK := Lib.hid hah; have HLN := Lib.hid hLn
          clear hc hnx hah hLn
          generalize m.bs.getD k 0 = x at *
          generalize Me.ahead m.bs k = l at *
          have i1 : (k : Int) < (m.bs.length : Int) := by omega
          have i0 : (0 : Int) ≤ (k : Int) := by omega
          by_cases h3 : m.gen = 3
          · have g3 : (m.gen == 3) = true := by simpa using h3
            rw [if_pos h3] at HNX
            have hsub : IntKind.i64.wrap (x - l) = x - l := IntWalk.i64_in _ (by omega)
            have hsub2 : wrap64 (x - l) = x - l := IntWalk.wrap64_in _ ⟨by omega, by omega⟩
            have hz := Me.zig_small (x - l) (by omega) (by omega)
            have HZ := Lib.hid (Zig_any (x - l) (Lib.hid (by omega)))
            generalize Num.zig (x - l) = z at *
            have hwz : IntKind.i64.wrap (z : Int) = (z : Int) := IntWalk.i64_in _ (by omega)
            have hwz2 : wrap64 (z : Int) = (z : Int) := IntWalk.wrap64_in _ ⟨by omega, by omega⟩
            clear h3
            go_wp2_with fail
            refine (HZ.out _).mono ?_; rintro e w6 ⟨rfl, rfl⟩
            have HMK := Lib.hid (ints_made wr z)
            have HOA := Lib.hid (HOW.out.alloc (.cells #[.int .i64 z] 3))
            have HBA := Lib.hid (HB5.out.alloc hps (.cells #[.int .i64 z] 3))
            go_wp2_with (at_builtin; (refine wpList_append_ints _ rfl (.tmp 39) (.tmp 45) rfl p _ (3 + k) (H ++ T.take k) rfl HOA.out (some ⟨wr.heap.size, 0, none⟩) 1 [(z : Int)] 1 rfl rfl HMK.out (3 + (k + 1)) (by omega) (by omega) (by simp; omega) ?_); intro v8 w8 hown8 hg8; have HO8 := Lib.hid hown8; have HG8 := Lib.hid hg8; clear hown8 hg8)
            go_roundw
            case rel =>
              refine ⟨k + 1, by omega, by go_num, by rw [HAK.out], ?_, HBA.out.grown HG8.out (by have := HBA.out.size; simp; omega) (fun r e => (HOA.out.lt r e).1)⟩
              rw [HNX.out, ← List.append_assoc]; exact HO8.out
            case measure => simp [intOf]; omega
          · have g3 : (m.gen == 3) = false := by simpa using h3
            rw [if_neg h3] at HNX
            clear h3
            have HMK := Lib.hid (ints_made wr x)
            have HOA := Lib.hid (HOW.out.alloc (.cells #[.int .i64 x] 3))
            have HBA := Lib.hid (HB5.out.alloc hps (.cells #[.int .i64 x] 3))
            go_wp2_with (at_builtin; (refine wpList_append_ints _ rfl (.tmp 47) (.tmp 49) rfl p _ (3 + k) (H ++ T.take k) rfl HOA.out (some ⟨wr.heap.size, 0, none⟩) 1 [x] 1 rfl rfl HMK.out (3 + (k + 1)) (by omega) (by omega) (by simp; omega) ?_); intro v8 w8 hown8 hg8; have HO8 := Lib.hid hown8; have HG8 := Lib.hid hg8; clear hown8 hg8)
            go_roundw
            case rel =>
              refine ⟨k + 1, by omega, by go_num, by rw [HAK.out], ?_, HBA.out.grown HG8.out (by have := HBA.out.size; simp; omega) (fun r e => (HOA.out.lt r e).1)⟩
              rw [HNX.out, ← List.append_assoc]; exact HO8.out
            case measure => simp [intOf]; omega
        · obtain rfl : k = m.bs.length := by omega
          have hT : T.take m.bs.length = T := List.take_of_length_le (by have := HTL.out; omega)
          have hown := HOW.out
          rw [hT] at hown
          obtain ⟨hz6, A6, c6, rfl, hI6⟩ := own_irow hown
          have hnum := fun W hW => numbers_any m.gen A6 (3 + m.bs.length) c6 (H ++ T) hz6 (by omega) HIN.out W hW
          rw [HCI.out] at hnum
          have hnum2 : ∀ W, IRow W A6 (H ++ T) → Calls Tryz.prog 107 #[.int .i64 m.gen, .slice A6 (3 + m.bs.length) c6] W fun e w' => e = .returned (.string (Me.body m)) ∧ Below W.heap.size W w' := hnum
          have hput := fun W => Put_any (Me.body m) (by have := HBZ.out; omega) W
          have hhead : ∀ W, Calls Tryz.prog 13 #[.string ⟨#[65, 77, 69, 84]⟩, .int .i64 m.gen, .int .i64 0] W fun e w' => e = .returned (.string (Fr.head Me.amet m.gen 0)) ∧ Below W.heap.size W w' := fun W => Head_any Me.amet (by decide) m.gen 0 W
          have hph : PHeld w A6 (H ++ T) wr := ⟨hI6.row, HBW.out⟩
          have hby : Me.bytes m = Fr.head Me.amet m.gen 0 ++ Fr.put (Me.body m) := rfl
          have hbsz := Me.bytes_size m o5
          rw [hby, ByteArray.size_append] at hbsz
          have hsum : ¬ 9223372036854775807 < (Fr.head Me.amet m.gen 0).size + (Fr.put (Me.body m)).size := by omega
          have HNUM := Lib.hid hnum2; have HPUT := Lib.hid hput; have HHEAD := Lib.hid hhead; have HPH := Lib.hid hph; have HBY := Lib.hid hby
          clear hT hown hz6 hI6 hnum hnum2 hput hhead hph hby hbsz
          generalize Fr.head Me.amet m.gen 0 = hd at *
          generalize Fr.put (Me.body m) = pb at *
          generalize Me.body m = bd at *
          generalize H ++ T = HT at *
          go_wp2_with fail
          clear c1 c2 c3
          go_region_held3 (fun W => W.cell? ⟨w.heap.size, 0, none⟩ = some (.int .i64 m.gen) ∧ PHeld w A6 HT W)
            (first | exact ⟨c0, HPH.out⟩ | exact ⟨c0, HPH.out.drew⟩ | (go_split_ands; refine ⟨?_, ?_⟩ <;> first | assumption | exact cell_keep (by assumption) hb2 | exact PHeld.later (by assumption) hb2))
            (first | (go_at_call 13; refine (HHEAD.out _).mono ?_; rintro e W2 ⟨rfl, hb2⟩) | (go_at_call 107; go_split_ands; refine (HNUM.out _ (PHeld.row (by assumption))).mono ?_; rintro e W2 ⟨rfl, hb2⟩) | (go_at_call 106; refine (HPUT.out _).mono ?_; rintro e W2 ⟨rfl, hb2⟩))
          go_wp2_with fail
          go_ret2
          go_split_ands
          exact ⟨by rw [HBY.out]; rfl, PHeld.bel (by assumption)⟩
end Go.Proofs.YtfibapfehgglhaaGreatDoor
