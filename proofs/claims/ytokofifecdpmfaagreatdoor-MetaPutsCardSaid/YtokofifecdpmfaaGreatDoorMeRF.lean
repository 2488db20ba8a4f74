/-
  What the document's answer for frames comes to: Put, open, Get.
-/
import Derived.Test.YtokofifecdpmfaaGreatDoorFrJ
import Derived.Test.YtokofifecdpmfaaGreatDoorNumX
import Derived.BigQuiet
namespace Go.Proofs.YtokofifecdpmfaaGreatDoor
open Go.RowKit

set_option maxRecDepth 100000 in
set_option maxHeartbeats 400000 in
theorem rFPut_any (s : ByteArray) (hs : s.size ≤ 1000) (w : World) :
    Calls Tryz.prog 26 #[.string s] w fun e w' => e = .returned (.string (Fr.put s)) ∧ Below w.heap.size w w' := by
  have hz : (Fr.txt s).size ≤ 10 + s.size := by rw [Fr.txt_size]; have := Fr.small_le s.size; omega
  have HZ := Lib.hid hz; clear hz
  have htx : ∀ W, Calls Tryz.prog 48 #[.string s] W fun e w' => e = .returned (.string (Fr.txt s)) ∧ Below W.heap.size W w' := fun W => rText_any s hs W
  go_enter Tryz.func26, Tryz.ntmps26
  go_wp2_with fail
  refine (htx _).mono ?_; rintro e w1 ⟨rfl, hb⟩
  have HB := Lib.hid hb; clear hb
  have hz := HZ.out
  have htl : (Fr.txt s).size ≤ maxLen := by unfold maxLen; omega
  have HTL := Lib.hid htl; clear htl htx
  have h4 := Crc.four_size (Crc.ofB (Fr.txt s))
  have hput : Fr.txt s ++ Crc.four (Crc.ofB (Fr.txt s)) = Fr.put s := rfl
  generalize hT : Fr.txt s = t at *
  have HP := Lib.hid hput; clear hput hT
  go_wp2_with fail
  refine (rTail_any t HTL.out _).mono ?_; rintro e w2 ⟨rfl, hb2⟩
  have HB2 := Lib.hid (below_step HB.out hb2); clear hb2
  generalize Crc.four (Crc.ofB t) = c at *
  have hsum : ¬ 9223372036854775807 < t.size + c.size := by omega
  have H4 := Lib.hid h4; clear h4
  go_wp2_with fail
  go_ret
  exact ⟨by rw [HP.out]; rfl, HB2.out⟩

set_option maxRecDepth 100000 in
set_option maxHeartbeats 400000 in
theorem rFopen_any (s : ByteArray) (hs : s.size ≤ 1000) (w : World) :
    Calls Tryz.prog 59 #[.string s] w fun e w' => e = .returned (.bool (Fr.mayGo s)) ∧ w = w' := by
  have hall : Fr.mayGo s = (s.data.toList.all (fun b => decide (128 ≤ b.toNat)) && decide (s.size < 10)) := rfl
  generalize Fr.mayGo s = g at *
  have HG := Lib.hid hall; clear hall
  go_enter Tryz.func59, Tryz.ntmps59
  go_wp2_with fail
  go_loop [3] (fun i => ∃ k : Nat, k ≤ s.size ∧ i = .int .i64 k ∧ (s.data.toList.take k).all (fun b => decide (128 ≤ b.toNat)) = true) (fun i => s.size - (intOf i).toNat)
  case atStart => exact ⟨0, by omega, rfl, rfl⟩
  case round =>
    obtain ⟨k, hk, rfl, ha⟩ := hrel
    have HA := Lib.hid ha; clear ha
    by_cases hlt : k < s.size
    · have hsn := Crc.take_snoc s k hlt
      have HSN := Lib.hid hsn; clear hsn
      have hb := s[k].toNat_lt
      by_cases h128 : s[k].toNat < 128
      · have HC := Lib.hid h128
        go_wp2_with fail
        go_ret
        refine ⟨?_, rfl⟩
        rw [HG.out]
        have hsp : s.data.toList = s.data.toList.take (k + 1) ++ s.data.toList.drop (k + 1) := (List.take_append_drop _ _).symm
        have : s.data.toList.all (fun b => decide (128 ≤ b.toNat)) = false := by
          rw [hsp, HSN.out]
          have := HC.out
          simp only [List.all_append, List.all_cons, List.all_nil]
          rw [show decide (128 ≤ s[k].toNat) = false from by simp; omega]
          simp
        rw [this]; rfl
      · have HC := Lib.hid h128
        go_wp2_with fail
        go_round
        case rel =>
          refine ⟨k + 1, by omega, by go_num, ?_⟩
          rw [HSN.out]
          have := HC.out
          simp only [List.all_append, List.all_cons, List.all_nil, HA.out]
          rw [show decide (128 ≤ s[k].toNat) = true from by simp; omega]
          rfl
        case measure => simp [intOf]; omega
    · have hE : s.data.toList.all (fun b => decide (128 ≤ b.toNat)) = true := by
        have := HA.out
        rwa [List.take_of_length_le (by simp; omega)] at this
      have HE := Lib.hid hE; clear hE
      go_wp2_with fail
      go_ret
      refine ⟨?_, rfl⟩
      rw [HG.out, HE.out]
      simp; omega
namespace Fr
/-- a frame ahead, as the document's answer looks at it -/
theorem whole_iff (s : ByteArray) (v n : Nat) (hd : num s = (v, n, true)) (hl : n + v + 4 ≤ s.size) :
    (put ((s.extract n s.size).extract 0 v) = s.extract 0 (n + v + 4)) ↔ s.extract (n + v) (n + v + 4) = Crc.four (Crc.ofB (s.extract 0 (n + v))) := by
  have hx : (s.extract n s.size).extract 0 v = s.extract n (n + v) := ext_ext s n s.size v (by omega)
  have hv : (s.extract n (n + v)).size = v := by rw [ByteArray.size_extract]; omega
  have hok : (Num.decp 0 0 s.data.toList).2.2 = true := by have : num s = Num.decp 0 0 s.data.toList := rfl; rw [← this, hd]
  have hsm := (Num.small_back s hok).1
  have hnum : Num.decp 0 0 s.data.toList = (v, n, true) := hd
  rw [hnum] at hsm
  have htx : txt (s.extract n (n + v)) = s.extract 0 (n + v) := by
    unfold txt
    rw [hv, hsm]
    exact join s n (n + v) (by omega) (by omega)
  have hj := join s (n + v) (n + v + 4) (by omega) hl
  rw [hx]
  unfold put
  rw [htx, ← hj]
  constructor
  · intro h
    have h1 := congrArg (fun t : ByteArray => t.data.toList) h
    simp only [Num.app_list] at h1
    exact (by apply ByteArray.ext; apply Array.toList_inj.1; exact (List.append_cancel_left h1).symm)
  · intro h; rw [h]
end Fr

set_option maxRecDepth 100000 in
set_option maxHeartbeats 2000000 in
theorem rFGet_any (s : ByteArray) (hs : s.size ≤ 1000) (w : World) :
    Calls Tryz.prog 34 #[.string s, .int .i64 1000] w fun e w' => e = .returned (.tuple #[.string (Fr.get s 1000).1, .string (Fr.get s 1000).2.1, .int .i64 ((Fr.get s 1000).2.2 : Nat)]) ∧ Below w.heap.size w w' := by
  have hnum : Fr.num s = Num.decp 0 0 s.data.toList := rfl
  have hgs := fun W => rGetSmall_any s hs W _ _ _ rfl rfl rfl
  rw [← hnum] at hgs
  have hle := Fr.num_le_size s
  have hltn := Fr.num_lt s
  obtain ⟨v, n, o, hd⟩ : ∃ v n o, Fr.num s = (v, n, o) := ⟨_, _, _, rfl⟩
  rw [hd] at hgs hle hltn
  cases o
  · have hgs2 : ∀ W, Calls Tryz.prog 58 #[.string s] W fun e w' => e = .returned (.tuple #[.int .u64 0, .string s, .bool false]) ∧ Below W.heap.size W w' := hgs
    have hop := fun W => rFopen_any s hs W
    have HGS := Lib.hid hgs2
    cases hm : Fr.mayGo s
    · have hg : Fr.get s 1000 = (ByteArray.empty, s, 2) := by
        unfold Fr.get; rw [hm, hd]; simp
      rw [hg]
      rw [hm] at hop
      have HOP := Lib.hid hop
      clear hgs hgs2 hop hm hg hnum hd
      go_enter Tryz.func34, Tryz.ntmps34
      go_wp2_with fail
      refine (HGS.out _).mono ?_; rintro e w1 ⟨rfl, hb1⟩
      have HB1 := Lib.hid hb1; clear hb1
      go_wp2_with fail
      refine (HOP.out _).mono ?_; rintro e w2 ⟨rfl, rfl⟩
      go_wp2_with fail
      go_ret3
      exact ⟨rfl, HB1.out⟩
    · have hg : Fr.get s 1000 = (ByteArray.empty, s, 1) := by
        unfold Fr.get; rw [hm]; simp
      rw [hg]
      rw [hm] at hop
      have HOP := Lib.hid hop
      clear hgs hgs2 hop hm hg hnum hd
      go_enter Tryz.func34, Tryz.ntmps34
      go_wp2_with fail
      refine (HGS.out _).mono ?_; rintro e w1 ⟨rfl, hb1⟩
      have HB1 := Lib.hid hb1; clear hb1
      go_wp2_with fail
      refine (HOP.out _).mono ?_; rintro e w2 ⟨rfl, rfl⟩
      go_wp2_with fail
      go_ret3
      exact ⟨rfl, HB1.out⟩
  · have hgs2 : ∀ W, Calls Tryz.prog 58 #[.string s] W fun e w' => e = .returned (.tuple #[.int .u64 v, .string (s.extract n s.size), .bool true]) ∧ Below W.heap.size W w' := hgs
    have hm : Fr.mayGo s = false := Fr.num_ok_stop s (by rw [hd])
    have hrz : (s.extract n s.size).size = s.size - n := by rw [ByteArray.size_extract]; omega
    have HGS := Lib.hid hgs2
    simp only at hle hltn
    by_cases hv : 1000 < v
    · have hg : Fr.get s 1000 = (ByteArray.empty, s, 2) := by
        unfold Fr.get; rw [hm, hd]
        simp only [Bool.false_eq_true, if_false]
        rw [if_pos (by right; right; omega)]
      rw [hg]
      have d1 : decide ((1000 : Int) < (v : Int)) = true := by simp; omega
      have d1n : decide (1000 < v) = true := by simpa using hv
      have hwr : IntKind.u64.wrap 1000 = 1000 := by rw [IntKind.wrap_u64]; omega
      clear hgs hgs2 hm hg hnum hd
      go_enter Tryz.func34, Tryz.ntmps34
      go_wp2_with fail
      refine (HGS.out _).mono ?_; rintro e w1 ⟨rfl, hb1⟩
      have HB1 := Lib.hid hb1; clear hb1
      go_wp2_with fail
      go_ret3
      exact ⟨rfl, HB1.out⟩
    · have d1 : decide ((1000 : Int) < (v : Int)) = false := by simp; omega
      have d1n : decide (1000 < v) = false := by simpa using hv
      have hwr : IntKind.u64.wrap 1000 = 1000 := by rw [IntKind.wrap_u64]; omega
      have hwl : IntKind.u64.wrap (((s.extract n s.size).size : Nat) : Int) = ((s.extract n s.size).size : Nat) := by rw [IntKind.wrap_u64]; omega
      have hwv : IntKind.u64.wrap ((v : Int) + 4) = (v : Int) + 4 := by rw [IntKind.wrap_u64]; omega
      by_cases hl : s.size < n + v + 4
      · have hg : Fr.get s 1000 = (ByteArray.empty, s, 1) := by
          unfold Fr.get; rw [hm, hd]
          simp only [Bool.false_eq_true, if_false]
          rw [if_neg (by rintro (h | h | h) <;> first | cases h | omega), if_pos hl]
        rw [hg]
        have d2 : decide ((((s.extract n s.size).size : Nat) : Int) < (v : Int) + 4) = true := by simp; omega
        clear hgs hgs2 hm hg hnum hd hrz
        generalize s.extract n s.size = r at *
        go_enter Tryz.func34, Tryz.ntmps34
        go_wp2_with fail
        refine (HGS.out _).mono ?_; rintro e w1 ⟨rfl, hb1⟩
        have HB1 := Lib.hid hb1; clear hb1
        go_wp2_with fail
        go_ret3
        exact ⟨rfl, HB1.out⟩
      · have d2 : decide ((((s.extract n s.size).size : Nat) : Int) < (v : Int) + 4) = false := by simp; omega
        have hwi := Fr.whole_iff s v n hd (by omega)
        have hget : Fr.get s 1000 = if s.extract (n + v) (n + v + 4) = Crc.four (Crc.ofB (s.extract 0 (n + v))) then (s.extract n (n + v), s.extract (n + v + 4) s.size, 0) else (ByteArray.empty, s, 2) := by
          unfold Fr.get
          rw [hm, hd]
          simp only [Bool.false_eq_true, if_false]
          rw [if_neg (by rintro (h | h | h) <;> first | cases h | omega), if_neg (by omega)]
        have hx : (s.extract n s.size).extract 0 v = s.extract n (n + v) := Fr.ext_ext s n s.size v (by omega)
        have hx2 : (s.extract n s.size).extract (v + 4) (s.extract n s.size).size = s.extract (n + v + 4) s.size := by
          have := Fr.ext_drop s n (v + 4)
          rwa [show n + (v + 4) = n + v + 4 from by omega] at this
        rw [hx] at hwi
        have hpt := fun W => rFPut_any (s.extract n (n + v)) (by rw [ByteArray.size_extract]; omega) W
        have hbe := str_beq (Fr.put (s.extract n (n + v))) (s.extract 0 (n + v + 4))
        have hwv2 : wrap64 (v : Int) = (v : Int) := IntWalk.wrap64_in _ ⟨by omega, by omega⟩
        have hwv3 : IntKind.i64.wrap (v : Int) = (v : Int) := IntWalk.i64_in _ (by omega)
        have a1 : IntKind.i64.wrap ((s.size : Int) - ((s.extract n s.size).size : Nat)) = (n : Int) := by rw [IntWalk.i64_in _ (by omega)]; omega
        have a2 : IntKind.i64.wrap ((n : Int) + (v : Int)) = ((n + v : Nat) : Int) := by rw [IntWalk.i64_in _ (by omega)]; omega
        have a3 : IntKind.i64.wrap (((n + v : Nat) : Int) + 4) = ((n + v + 4 : Nat) : Int) := by rw [IntWalk.i64_in _ (by omega)]; omega
        have a4 : IntKind.i64.wrap ((v : Int) + 4) = ((v + 4 : Nat) : Int) := by rw [IntWalk.i64_in _ (by omega)]; omega
        have hsl1 : (v : Int) ≤ ((s.extract n s.size).size : Nat) := by omega
        have hsl2 : (v : Int) + 4 ≤ ((s.extract n s.size).size : Nat) := by omega
        have hsl3 : ((n + v + 4 : Nat) : Int) ≤ (s.size : Int) := by omega
        have hv4 : ((v + 4 : Nat) : Int) ≤ ((s.extract n s.size).size : Nat) := by omega
        have v0 : (0 : Int) ≤ (v : Int) := by omega
        have HPT := Lib.hid hpt; have HBE := Lib.hid hbe; have HGET := Lib.hid hget; have HWI := Lib.hid hwi
        have HX := Lib.hid hx; have HX2 := Lib.hid hx2
        clear hgs hgs2 hm hnum hd hrz hpt hbe hget hwi hx hx2 hl
        generalize s.extract n s.size = r at *
        generalize s.extract n (n + v) = b at *
        generalize hfr : s.extract 0 (n + v + 4) = fr at *
        generalize s.extract (n + v + 4) s.size = rs at *
        generalize Fr.put b = pb at *
        generalize Fr.get s 1000 = G at *
        generalize n + v + 4 = nv4 at *
        generalize n + v = nv at *
        generalize v + 4 = v4 at *
        have z4 : (0 : Int) ≤ (nv4 : Int) := by omega
        go_enter Tryz.func34, Tryz.ntmps34
        go_wp2_with fail
        refine (HGS.out _).mono ?_; rintro e w1 ⟨rfl, hb1⟩
        have HB1 := Lib.hid hb1; clear hb1
        go_upto_region 11 with fail
        go_cut [55] (fun s55 wx => s55 = .bool (!(pb.toList == fr.toList)) ∧ Below w.heap.size w wx)
        case first =>
          refine plain_held (fun _ => True) (by kernel_rfl) ?_
          have hbd := HB1.out.drew
          generalize w1.drew = wd at *
          have HBD := Lib.hid hbd
          clear hbd
          have hx := HX.out
          refine wpAnyH_pickQ (by kernel_rfl) Only.panic Only.keepsIn (w := wd) trivial [0, 1, 2, 4, 5, 6, 7, 8, 9, 10, 11, 12, 13] 2 _ _ (by kernel_rfl) ?_
          refine PickQ.value (d := some 41) (.string r) rfl rfl (by kernel_rfl) (fun U hU => (by go_simp)) ?_
          refine PickQ.value (d := some 42) (.int .i64 v) rfl rfl (by kernel_rfl) (fun U hU => (by go_simp)) ?_
          refine PickQ.value (d := some 43) (.string b) rfl rfl (by kernel_rfl) (fun U hU => (by go_simp)) ?_
          refine PickQ.value (d := some 45) (.string s) rfl rfl (by kernel_rfl) (fun U hU => (by go_simp)) ?_
          refine PickQ.value (d := some 46) (.string s) rfl rfl (by kernel_rfl) (fun U hU => (by go_simp)) ?_
          refine PickQ.value (d := some 47) (.int .i64 (s.size : Nat)) rfl rfl (by kernel_rfl) (fun U hU => (by go_simp)) ?_
          refine PickQ.value (d := some 48) (.string r) rfl rfl (by kernel_rfl) (fun U hU => (by go_simp)) ?_
          refine PickQ.value (d := some 49) (.int .i64 (r.size : Nat)) rfl rfl (by kernel_rfl) (fun U hU => (by go_simp)) ?_
          refine PickQ.value (d := some 50) (.int .i64 n) rfl rfl (by kernel_rfl) (fun U hU => (by go_simp)) ?_
          refine PickQ.value (d := some 51) (.int .i64 v) rfl rfl (by kernel_rfl) (fun U hU => (by go_simp)) ?_
          refine PickQ.value (d := some 52) (.int .i64 (nv : Int)) rfl rfl (by kernel_rfl) (fun U hU => (by go_simp)) ?_
          refine PickQ.value (d := some 53) (.int .i64 (nv4 : Int)) rfl rfl (by kernel_rfl) (fun U hU => (by go_simp)) ?_
          refine PickQ.value (d := some 54) (.string fr) rfl rfl (by kernel_rfl) (fun U hU => (by go_simp)) ?_
          simp only [PickQ, Act.put, List.setIfInBounds_toArray]
          clear hfr hx
          refine wpAnyH_one (i := 3) (by kernel_rfl) rfl (by kernel_rfl) ?_
          intro K hK
          unfold Oper.wp
          go_simp
          refine (HPT.out _).mono ?_; rintro e w2 ⟨rfl, hb2⟩
          refine hK _ _ trivial (fun _ => ?_)
          clear hK K
          have HB2 := Lib.hid (below_step HBD.out hb2); clear hb2
          refine wpAnyH_one (i := 14) (by kernel_rfl) rfl (by kernel_rfl) ?_
          intro K hK
          unfold Oper.wp
          go_simp
          refine hK _ _ trivial (fun _ => ?_)
          clear hK K
          refine wpAnyH_done (by kernel_rfl) ?_ _
          refine Only.next ?_
          go_wp2_with fail
          go_meet
          exact ⟨rfl, HB2.out⟩
        case rest =>
          obtain ⟨rfl, hb9⟩ := hcut
          have HB9 := Lib.hid hb9
          clear hb9 hfr
          have hxx := HX.out; have hxx2 := HX2.out
          by_cases hck : pb = fr
          · have hb : (!(pb.toList == fr.toList)) = false := by rw [HBE.out]; simpa using hck
            rw [hb]
            have hg := HGET.out
            rw [if_pos (HWI.out.1 hck)] at hg
            subst hg
            clear hb hck
            go_wp2_with fail
            go_quiet (fail)
            go_wp2_with fail
            go_ret3
            exact ⟨rfl, below_drewN HB9.out _⟩
          · have hb : (!(pb.toList == fr.toList)) = true := by rw [HBE.out]; simpa using hck
            rw [hb]
            have hg := HGET.out
            rw [if_neg (fun e => hck (HWI.out.2 e))] at hg
            subst hg
            clear hb hck
            go_wp2_with fail
            go_ret3
            exact ⟨rfl, HB9.out⟩
end Go.Proofs.YtokofifecdpmfaaGreatDoor
