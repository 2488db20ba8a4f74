/-
  What Name and Parse of the document's answer come to, and the walk of MetaNames.
-/
import Derived.Test.YtokofifecdpmfaaDoorMeH
import Derived.Test.YtokofifecdpmfaaDoorMeW
namespace Go.Proofs.YtokofifecdpmfaaDoor
open Go.RowKit

theorem conv_one (w : World) (x : UInt8) (dst : TypeId) (hd : Tryd.prog.underlying dst = some .string) :
    (convert 48 dst (.slice (some ⟨w.heap.size, 0, none⟩) 1 1)).run Tryd.prog (w.alloc (.cells #[.int .u8 (x.toNat : Int)] 5)) = .ok (.string ⟨#[x]⟩) (w.alloc (.cells #[.int .u8 (x.toNat : Int)] 5)) :=
  arr_back _ w.heap.size 48 5 dst 5 [x] Tryd.underlying48 Tryd.underlying5 hd (heap_alloc_new _ _) 1 rfl

set_option maxRecDepth 100000 in
set_option maxHeartbeats 1000000 in
theorem rName_any (kind : ByteArray) (hk : kind.size ≤ 1000) (n : Int) (w : World) :
    Calls Tryd.prog 11 #[.string kind, .int .i64 n] w fun e w' => e = .returned (.string (Me.nameB kind n)) ∧ Below w.heap.size w w' := by
  by_cases h0 : 0 ≤ n ∧ n ≤ 999999
  · obtain ⟨v, rfl⟩ : ∃ v : Nat, n = v := ⟨n.toNat, by omega⟩
    have d1 : decide ((v : Int) < 0) = false := by simp
    have d2 : decide (999999 < (v : Int)) = false := by simp; omega
    have hnm : Me.nameB kind (v : Int) = (kind ++ ⟨#[45]⟩) ++ ⟨(Me.dig 6 v).toArray⟩ := by
      apply ByteArray.ext; apply Array.toList_inj.1
      rw [Me.name_yes kind v (by omega), Me.ba_app, Me.ba_app]
    have HNM := Lib.hid hnm
    have hv6 : v ≤ 999999 := by omega
    clear hnm h0
    generalize Me.nameB kind (v : Int) = NM at *
    go_enter Tryd.func11, Tryd.ntmps11
    go_wp2_with fail
    go_loopw [1, 5, 6] (fun q s i wr => ∃ k : Nat, k ≤ 6 ∧ i = .int .i64 k ∧ q = .int .i64 ((v / 10 ^ k : Nat) : Int) ∧ s = .string ⟨(Me.dig k v).toArray⟩ ∧ Below w.heap.size w wr) (fun _ _ i _ => 6 - (intOf i).toNat)
    case atStart => exact ⟨0, by omega, rfl, by simp, rfl, Below.refl _ _⟩
    case round =>
      obtain ⟨k, hk6, rfl, rfl, rfl, hb⟩ := hrel
      have HB := Lib.hid hb; clear hb
      by_cases hlt : k < 6
      · have hc := Me.dig_cons k v
        have hdv : v / 10 ^ (k + 1) = v / 10 ^ k / 10 := by rw [Nat.pow_succ, Nat.div_div_eq_div_mul]
        have hql : v / 10 ^ k ≤ 999999 := Nat.le_trans (Nat.div_le_self _ _) hv6
        have hz : (⟨(Me.dig k v).toArray⟩ : ByteArray).size = k := by rw [Me.ba_len, Me.dig_length]
        have happ : (⟨#[UInt8.ofNat (48 + v / 10 ^ k % 10)]⟩ : ByteArray) ++ ⟨(Me.dig k v).toArray⟩ = ⟨(Me.dig (k + 1) v).toArray⟩ := by
          apply ByteArray.ext; apply Array.toList_inj.1
          rw [Me.ba_app, hc]; rfl
        have HAPP := Lib.hid happ; have HDV := Lib.hid hdv
        clear happ hdv hc
        generalize (⟨(Me.dig k v).toArray⟩ : ByteArray) = s at *
        generalize v / 10 ^ k = q at *
        obtain ⟨x, hx⟩ : ∃ x, UInt8.ofNat (48 + q % 10) = x := ⟨_, rfl⟩
        have hxn : x.toNat = 48 + q % 10 := by rw [← hx]; exact Me.digit_nat _ (by omega)
        have hcv := conv_one wr x 9 Tryd.underlying9
        have t1 : ((q : Nat) : Int).tmod 10 = ((q % 10 : Nat) : Int) := by rw [Int.tmod_eq_emod_of_nonneg (by omega)]; omega
        have t2 : ((q : Nat) : Int).tdiv 10 = ((q / 10 : Nat) : Int) := by rw [Int.tdiv_eq_ediv_of_nonneg (by omega)]; omega
        have t3 : (48 : Int) + ((q : Int) % 10) = (x.toNat : Int) := by omega
        have hxl := x.toNat_lt
        have hsum : ¬ 9223372036854775807 < 1 + s.size := by omega
        rw [hx] at HAPP
        have HCV := Lib.hid hcv
        clear hx hxn hcv
        go_wp2_with fail
        rw [HCV.out]
        have hb2 := HB.out.alloc HB.out.size (.cells #[.int .u8 (x.toNat : Int)] 5)
        have HB2 := Lib.hid hb2; clear hb2
        have hx1 : (⟨#[x]⟩ : ByteArray).size = 1 := rfl
        generalize (⟨#[x]⟩ : ByteArray) = sx at *
        have hsum2 : ¬ 9223372036854775807 < sx.size + s.size := by omega
        clear hsum hx1
        go_wp2_with fail
        go_roundw
        case rel =>
          refine ⟨k + 1, by omega, by go_num, by rw [HDV.out]; go_num, by rw [HAPP.out], HB2.out⟩
        case measure => simp [intOf]; omega
      · obtain rfl : k = 6 := by omega
        have hz : (⟨(Me.dig 6 v).toArray⟩ : ByteArray).size = 6 := by rw [Me.ba_len, Me.dig_length]
        generalize (⟨(Me.dig 6 v).toArray⟩ : ByteArray) = s at *
        obtain ⟨k1, hk1⟩ : ∃ k1, kind ++ (⟨#[45]⟩ : ByteArray) = k1 := ⟨_, rfl⟩
        have hs1 : (kind ++ (⟨#[45]⟩ : ByteArray)).size = kind.size + 1 := by rw [ByteArray.size_append]; rfl
        have hsum1 : ¬ 9223372036854775807 < kind.size + 1 := by omega
        have hsum2 : ¬ 9223372036854775807 < (kind ++ (⟨#[45]⟩ : ByteArray)).size + s.size := by omega
        clear hs1 hk1
        go_wp2_with fail
        go_ret
        exact ⟨by rw [HNM.out]; rfl, HB.out⟩
  · have hi : Me.inName n = false := by unfold Me.inName; simpa using h0
    have hnm : Me.nameB kind n = ByteArray.empty := by unfold Me.nameB; rw [hi]; rfl
    rw [hnm]
    have hd : decide (n < 0) = true ∨ (decide (n < 0) = false ∧ decide (999999 < n) = true) := by
      simp only [decide_eq_true_eq, decide_eq_false_iff_not]; omega
    clear hi hnm h0
    rcases hd with d1 | ⟨d1, d2⟩
    all_goals
      go_enter Tryd.func11, Tryd.ntmps11
      go_wp2_with fail
      go_ret
      exact ⟨rfl, Below.refl _ _⟩

theorem val_bound : ∀ (n : Nat) (l : List UInt8), l.length = n → -23 * (10 ^ n - 1) ≤ Me.val l ∧ Me.val l ≤ 23 * (10 ^ n - 1)
  | 0, l, h => by
    have : l = [] := List.length_eq_zero_iff.1 h
    subst this
    simp [Me.val]
  | n + 1, l, h => by
    have hne : l ≠ [] := fun e => by subst e; simp at h
    have e := List.dropLast_concat_getLast hne
    have hl : l.dropLast.length = n := by rw [List.length_dropLast]; omega
    have ih := val_bound n l.dropLast hl
    have hb := (l.getLast hne).toNat_lt
    rw [← e, Me.val_snoc, Int.pow_succ]
    omega
theorem val_small (l : List UInt8) (h : l.length ≤ 6) : -23000000 ≤ Me.val l ∧ Me.val l ≤ 23000000 := by
  have h1 := val_bound l.length l rfl
  have h2 : (10 : Int) ^ l.length ≤ 10 ^ 6 := by
    have : (10 : Nat) ^ l.length ≤ 10 ^ 6 := Nat.pow_le_pow_right (by omega) h
    exact_mod_cast this
  omega

set_option maxRecDepth 100000 in
set_option maxHeartbeats 1000000 in
theorem rParse_any (name : ByteArray) (hz : name.size ≤ 1000) (w : World) :
    Calls Tryd.prog 9 #[.string name] w fun e w' => e = .returned (.tuple #[.string (Me.rparse name).1, .int .i64 (Me.rparse name).2.1, .bool (Me.rparse name).2.2]) ∧ Below w.heap.size w w' := by
  have hw := fun W => rName_any Me.wal (by decide) (Me.rval name) W
  have hbl := fun W => rName_any Me.block (by decide) (Me.rval name) W
  have hw2 : ∀ W, Calls Tryd.prog 11 #[.string ⟨#[119, 97, 108]⟩, .int .i64 (Me.rval name)] W fun e w' => e = .returned (.string (Me.nameB Me.wal (Me.rval name))) ∧ Below W.heap.size W w' := hw
  have hbl2 : ∀ W, Calls Tryd.prog 11 #[.string ⟨#[98, 108, 111, 99, 107]⟩, .int .i64 (Me.rval name)] W fun e w' => e = .returned (.string (Me.nameB Me.block (Me.rval name))) ∧ Below W.heap.size W w' := hbl
  have hrp : Me.rparse name = if name ≠ ByteArray.empty ∧ Me.nameB Me.wal (Me.rval name) = name then (Me.wal, Me.rval name, true) else if name ≠ ByteArray.empty ∧ Me.nameB Me.block (Me.rval name) = name then (Me.block, Me.rval name, true) else (ByteArray.empty, 0, false) := rfl
  have hrv : Me.rval name = if name.size < 6 then 0 else Me.val (name.data.toList.drop (name.size - 6)) := rfl
  have hemp : name.toList.isEmpty = decide (name = ByteArray.empty) := by
    by_cases h : name = ByteArray.empty
    · subst h; rw [ByteArray.toList_eq]; rfl
    · have : ¬ name.data.toList = [] := fun e => h (by apply ByteArray.ext; apply Array.toList_inj.1; rw [e]; rfl)
      rw [ByteArray.toList_eq]
      cases hl : name.data.toList with
      | nil => exact absurd hl this
      | cons a l => simp [h]
  have b1 := str_beq (Me.nameB Me.wal (Me.rval name)) name
  have b2 := str_beq (Me.nameB Me.block (Me.rval name)) name
  have HW := Lib.hid hw2; have HBL := Lib.hid hbl2; have HRP := Lib.hid hrp; have HRV := Lib.hid hrv; have HEMP := Lib.hid hemp; have HB1 := Lib.hid b1; have HB2 := Lib.hid b2
  clear hw hbl hw2 hbl2 hrp hrv hemp b1 b2
  generalize Me.rparse name = RP at *
  generalize Me.rval name = RV at *
  have hsub : wrap64 ((name.size : Int) - 6) = (name.size : Int) - 6 := IntWalk.wrap64_in _ ⟨by omega, by omega⟩
  by_cases h6 : name.size < 6
  · have hrv := HRV.out
    rw [if_pos h6] at hrv
    subst hrv
    have i1 : ¬ (0 : Int) ≤ (name.size : Int) - 6 := by omega
    have d6 : decide ((0 : Int) ≤ (name.size : Int) - 6) = false := by simpa using i1
    go_enter Tryd.func9, Tryd.ntmps9
    go_wp2_with fail
    go_loop [5, 6] (fun v i => v = .int .i64 0 ∧ i = .int .i64 ((name.size : Int) - 6)) (fun _ _ => 0)
    case atStart => exact ⟨rfl, rfl⟩
    case round =>
      obtain ⟨rfl, rfl⟩ := hrel
      clear HRV
      by_cases he : name = ByteArray.empty
      · have q0 : name.toList.isEmpty = true := by rw [HEMP.out]; simpa using he
        have hrp := HRP.out
        rw [if_neg (fun h => h.1 he), if_neg (fun h => h.1 he)] at hrp
        subst hrp
        clear he
        go_wp2_with fail
        go_ret3
        exact ⟨rfl, Below.refl _ _⟩
      · have q0 : name.toList.isEmpty = false := by rw [HEMP.out]; simpa using he
        have hrp := HRP.out
        by_cases h1 : Me.nameB Me.wal 0 = name
        · have q1 : ((Me.nameB Me.wal 0).toList == name.toList) = true := by rw [HB1.out]; simpa using h1
          rw [if_pos ⟨he, h1⟩] at hrp
          subst hrp
          clear he h1
          generalize Me.nameB Me.wal 0 = nw at *
          go_wp2_with fail
          refine (HW.out _).mono ?_; rintro e w2 ⟨rfl, hb2⟩
          have HB9 := Lib.hid (hb2); clear hb2
          go_wp2_with fail
          go_ret3
          exact ⟨rfl, HB9.out⟩
        · have q1 : ((Me.nameB Me.wal 0).toList == name.toList) = false := by rw [HB1.out]; simpa using h1
          rw [if_neg (fun h => h1 h.2)] at hrp
          by_cases h2 : Me.nameB Me.block 0 = name
          · have q2 : ((Me.nameB Me.block 0).toList == name.toList) = true := by rw [HB2.out]; simpa using h2
            rw [if_pos ⟨he, h2⟩] at hrp
            subst hrp
            clear he h1 h2
            generalize Me.nameB Me.wal 0 = nw at *
            generalize Me.nameB Me.block 0 = nk at *
            go_wp2_with fail
            refine (HW.out _).mono ?_; rintro e w2 ⟨rfl, hb2⟩
            have HB8 := Lib.hid (hb2); clear hb2
            go_wp2_with fail
            refine (HBL.out _).mono ?_; rintro e w3 ⟨rfl, hb3⟩
            have HB9 := Lib.hid (below_step HB8.out hb3); clear hb3
            go_wp2_with fail
            go_ret3
            exact ⟨rfl, HB9.out⟩
          · have q2 : ((Me.nameB Me.block 0).toList == name.toList) = false := by rw [HB2.out]; simpa using h2
            rw [if_neg (fun h => h2 h.2)] at hrp
            subst hrp
            clear he h1 h2
            generalize Me.nameB Me.wal 0 = nw at *
            generalize Me.nameB Me.block 0 = nk at *
            go_wp2_with fail
            refine (HW.out _).mono ?_; rintro e w2 ⟨rfl, hb2⟩
            have HB8 := Lib.hid (hb2); clear hb2
            go_wp2_with fail
            refine (HBL.out _).mono ?_; rintro e w3 ⟨rfl, hb3⟩
            have HB9 := Lib.hid (below_step HB8.out hb3); clear hb3
            go_wp2_with fail
            go_ret3
            exact ⟨rfl, HB9.out⟩
  · have hrv := HRV.out
    rw [if_neg h6] at hrv
    have HRVV := Lib.hid hrv
    clear HRV hrv
    have hDl : (name.data.toList.drop (name.size - 6)).length = 6 := by
      have : name.data.toList.length = name.size := by simp
      rw [List.length_drop]; omega
    have hget : ∀ j (h : name.size - 6 + j < name.size), (name.data.toList.drop (name.size - 6)).take (j + 1) = (name.data.toList.drop (name.size - 6)).take j ++ [name[name.size - 6 + j]] := fun j h => by
      have hl : name.data.toList.length = name.size := by simp
      rw [List.take_succ_eq_append_getElem (by omega), List.getElem_drop]
      rfl
    have HGET := Lib.hid hget; have HDL := Lib.hid hDl
    clear hget hDl
    obtain ⟨b0, hb0⟩ : ∃ b0 : Nat, name.size - 6 = b0 := ⟨_, rfl⟩
    rw [hb0] at HGET HDL HRVV
    have hsz : name.size = b0 + 6 := by omega
    generalize name.data.toList.drop b0 = D at *
    have hsub2 : (name.size : Int) - 6 = (b0 : Int) := by omega
    rw [hsub2] at hsub
    have HSZ := Lib.hid hsz
    go_enter Tryd.func9, Tryd.ntmps9
    go_wp2_with fail
    go_loop [5, 6] (fun v i => ∃ j k : Nat, j ≤ 6 ∧ k = b0 + j ∧ v = .int .i64 (Me.val (D.take j)) ∧ i = .int .i64 (k : Int)) (fun _ i => name.size - (intOf i).toNat)
    case atStart => exact ⟨0, b0, by omega, by omega, rfl, rfl⟩
    case round =>
      obtain ⟨j, k, hj, hkj, rfl, rfl⟩ := hrel
      have HKJ := Lib.hid hkj
      by_cases hlt : j < 6
      · have hlt2 : k < name.size := by omega
        have hvs := val_small (D.take j) (by rw [List.length_take]; omega)
        have hv : Me.val (D.take (j + 1)) = Me.val (D.take j) * 10 + (name[k].toNat : Int) - 48 := by
          have hg := HGET.out j (by omega)
          rw [hg, Me.val_snoc]
          subst hkj
          rfl
        have hb := name[k].toNat_lt
        have HV := Lib.hid hv
        clear hv hkj hb0 hsz hsub hsub2
        generalize Me.val (D.take j) = acc at *
        generalize hx : name[k] = x at *
        have i1 : (k : Int) < (name.size : Int) := by omega
        have w1 : wrap64 (acc * 10) = acc * 10 := IntWalk.wrap64_in _ ⟨by omega, by omega⟩
        have w2 : wrap64 (acc * 10 + (x.toNat : Int)) = acc * 10 + (x.toNat : Int) := IntWalk.wrap64_in _ ⟨by omega, by omega⟩
        have w3 : wrap64 (acc * 10 + (x.toNat : Int) - 48) = acc * 10 + (x.toNat : Int) - 48 := IntWalk.wrap64_in _ ⟨by omega, by omega⟩
        go_wp2_with fail
        go_round
        case rel =>
          have := HKJ.out
          refine ⟨j + 1, k + 1, by omega, by omega, by rw [HV.out], by go_num⟩
        case measure => simp [intOf]; omega
      · have hj6 : j = 6 := by omega
        subst hj6
        have hD : D.take 6 = D := List.take_of_length_le (by have := HDL.out; omega)
        rw [hD]
        have hrv := HRVV.out
        rw [← hrv]
        have i1 : ¬ (k : Int) < (name.size : Int) := by omega
        clear hD hrv hkj hb0 hsz hsub hsub2 HRVV
        by_cases he : name = ByteArray.empty
        · have q0 : name.toList.isEmpty = true := by rw [HEMP.out]; simpa using he
          have hrp := HRP.out
          rw [if_neg (fun h => h.1 he), if_neg (fun h => h.1 he)] at hrp
          subst hrp
          clear he
          go_wp2_with fail
          go_ret3
          exact ⟨rfl, Below.refl _ _⟩
        · have q0 : name.toList.isEmpty = false := by rw [HEMP.out]; simpa using he
          have hrp := HRP.out
          by_cases h1 : Me.nameB Me.wal RV = name
          · have q1 : ((Me.nameB Me.wal RV).toList == name.toList) = true := by rw [HB1.out]; simpa using h1
            rw [if_pos ⟨he, h1⟩] at hrp
            subst hrp
            clear he h1
            generalize Me.nameB Me.wal RV = nw at *
            go_wp2_with fail
            refine (HW.out _).mono ?_; rintro e w2 ⟨rfl, hb2⟩
            have HB9 := Lib.hid (hb2); clear hb2
            go_wp2_with fail
            go_ret3
            exact ⟨rfl, HB9.out⟩
          · have q1 : ((Me.nameB Me.wal RV).toList == name.toList) = false := by rw [HB1.out]; simpa using h1
            rw [if_neg (fun h => h1 h.2)] at hrp
            by_cases h2 : Me.nameB Me.block RV = name
            · have q2 : ((Me.nameB Me.block RV).toList == name.toList) = true := by rw [HB2.out]; simpa using h2
              rw [if_pos ⟨he, h2⟩] at hrp
              subst hrp
              clear he h1 h2
              generalize Me.nameB Me.wal RV = nw at *
              generalize Me.nameB Me.block RV = nk at *
              go_wp2_with fail
              refine (HW.out _).mono ?_; rintro e w2 ⟨rfl, hb2⟩
              have HB8 := Lib.hid (hb2); clear hb2
              go_wp2_with fail
              refine (HBL.out _).mono ?_; rintro e w3 ⟨rfl, hb3⟩
              have HB9 := Lib.hid (below_step HB8.out hb3); clear hb3
              go_wp2_with fail
              go_ret3
              exact ⟨rfl, HB9.out⟩
            · have q2 : ((Me.nameB Me.block RV).toList == name.toList) = false := by rw [HB2.out]; simpa using h2
              rw [if_neg (fun h => h2 h.2)] at hrp
              subst hrp
              clear he h1 h2
              generalize Me.nameB Me.wal RV = nw at *
              generalize Me.nameB Me.block RV = nk at *
              go_wp2_with fail
              refine (HW.out _).mono ?_; rintro e w2 ⟨rfl, hb2⟩
              have HB8 := Lib.hid (hb2); clear hb2
              go_wp2_with fail
              refine (HBL.out _).mono ?_; rintro e w3 ⟨rfl, hb3⟩
              have HB9 := Lib.hid (below_step HB8.out hb3); clear hb3
              go_wp2_with fail
              go_ret3
              exact ⟨rfl, HB9.out⟩
end Go.Proofs.YtokofifecdpmfaaDoor
