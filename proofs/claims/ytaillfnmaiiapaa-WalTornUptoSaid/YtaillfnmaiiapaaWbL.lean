/-
  WalTorn: the walk.
-/
import Derived.Test.YtaillfnmaiiapaaWbJ
namespace Go.Proofs.Ytaillfnmaiiapaa
open Go.RowKit
open Go.ChangeShapes Go.WideShapes
theorem head_cut (h r : ByteArray) (c : Nat) : (h ++ r).extract 0 (h.size + c) = h ++ r.extract 0 c := by
  apply ByteArray.ext
  rw [ByteArray.data_extract, ByteArray.data_append, ByteArray.data_append, ByteArray.data_extract, Array.extract_append]
  have e1 : h.data.extract 0 (h.size + c) = h.data := by
    apply Array.extract_eq_self_of_le
    show h.data.size ≤ h.size + c
    exact Nat.le_add_right _ _
  have e2 : h.size + c - h.data.size = c := by
    show h.size + c - h.size = c
    omega
  rw [e1, e2, Nat.zero_sub]
/-- what a segment that is cut tells -/
structure CutAt (g : Int) (R : Nat → RowAt) (n : Nat) (s : ByteArray) (at_ : Nat) (X Y : Wa.Sg) (m : Nat) : Prop where
  xe : X.err = 0
  used : X.used ≤ at_
  lo : 10 ≤ X.used
  torn : X.torn = decide (X.used < at_)
  recs : X.recs = ((List.range (jn R n)).map (recF (jq R n))).take m
  many : m ≤ jn R n
  whole : ∀ i, i ≤ n → 10 + (Wa.rows g (wrow R) i).1.size ≤ at_ → jn R i ≤ m
  three : g = 3 → ∀ i, i < n → at_ < 10 + (Wa.rows g (wrow R) (i + 1)).1.size → 0 < (R i).n → m < jn R (i + 1)
  ye : Y.err = 0
  yt : Y.torn = false
  yr : Y.recs = X.recs
theorem seg_cut {w : World} {C : Option Addr} {n : Nat} {R : Nat → RowAt} (h : RowsIn w C n R) {g : Int} (hg : 1 ≤ g ∧ g ≤ 3) (hok : Wa.rowsOk g (wrow R) n) {s : ByteArray} (hs : s = Wa.hd g ++ (Wa.rows g (wrow R) n).1) {a : Nat} (ha : 10 ≤ a) (hb : a ≤ s.size) :
    ∃ m, CutAt g R n s a (Wa.read (s.extract 0 a)) (Wa.read (s.extract 0 (Wa.read (s.extract 0 a)).used)) m := by
  have hj : (Wa.join (wrow R) n).length ≤ 40 := by rw [join_len]; exact h.few
  obtain ⟨P, pi, hp⟩ := Wa.pieces (g := g) (R := wrow R) (fun i j hj => h.words i j hj) n (by omega) hok
  have hz : s.size = 10 + (Wa.rows g (wrow R) n).1.size := by rw [hs, ByteArray.size_append, Wa.hd_size]
  obtain ⟨c, rfl⟩ : ∃ c, a = 10 + c := ⟨a - 10, by omega⟩
  obtain ⟨K, m, u, h1, h2, h3, h4, h5, K2, h6⟩ := Wa.read_cut hg hp c (by omega)
  have e : ∀ c, s.extract 0 (10 + c) = Wa.hd g ++ (Wa.rows g (wrow R) n).1.extract 0 c := fun c => by
    have := head_cut (Wa.hd g) (Wa.rows g (wrow R) n).1 c
    rw [Wa.hd_size] at this
    rw [hs, this]
  rw [e c, h1]
  simp only
  rw [e u, h6]
  refine ⟨m, rfl, by show 10 + u ≤ 10 + c; omega, by show 10 ≤ 10 + u; omega, ?_, ?_, ?_, fun i hi hic => ?_, fun e3 i hi hic h0 => ?_, rfl, rfl, rfl⟩
  · show decide (u ≠ c) = decide (10 + u < 10 + c)
    exact decide_eq_decide.2 (by omega)
  · show (Wa.join (wrow R) n).take m = _
    rw [join_jq]
  · rw [join_len] at h3; exact h3
  · have := h4 i hi (by omega)
    rw [join_len] at this; exact this
  · have := h5 e3 i hi (by omega) h0
    rw [join_len] at this; exact this
theorem take_range (f : Nat → Wa.Rec) {m n : Nat} (h : m ≤ n) : ((List.range n).map f).take m = (List.range m).map f := by
  rw [← List.map_take, List.take_range, Nat.min_eq_left h]
theorem addr_zero (a : Addr) : a.add 0 = a := by
  obtain ⟨b, o, p⟩ := a
  cases p <;> rfl
set_option maxRecDepth 100000 in
set_option maxHeartbeats 4000000 in
theorem joinedN_any (C : Option Addr) (n c : Nat) (R : Nat → RowAt) (w : World) (hA : RowsRaw w C n R) (hn : n ≤ 1000) (hj : jn R n ≤ 1048576) :
    Calls Try.prog 10 #[.slice C n c] w fun e w' => ∃ A d, e = .returned (.slice A (jn R n) d) ∧ jn R n ≤ d ∧ (A = none → jn R n = 0 ∧ d = 0) ∧ RecsRaw w' A (jn R n) (jq R n) ∧ Below w.heap.size w w' := by
  have HA := Lib.hid hA; have HJ := Lib.hid hj
  clear hA hj
  go_enter Try.func10, Try.ntmps10
  go_wp2_with fail
  go_loopw [3, 4] (fun o i wr => ∃ k : Nat, k ≤ n ∧ i = .int .i64 k ∧ wr.ownsRow w.heap.size 52 5 o (jn R k) (rcells 5 (rx (jq R k)) (jn R k)) ∧ Below w.heap.size w wr) (fun _ i _ => n - (intOf i).toNat)
  case atStart => exact ⟨0, by omega, rfl, World.ownsRow_nil _ _ _ _, Below.refl _ _⟩
  case round =>
    obtain ⟨k, hk, rfl, ho, hb⟩ := hrel
    have HBL := Lib.hid hb; have HO := Lib.hid ho
    have i0 : (0 : Int) ≤ (k : Int) := by omega
    clear hb ho
    by_cases hlt : k < n
    · obtain ⟨ad, rfl, x0, -⟩ := HA.out.row.at_ HBL.out hlt
      have x0 := x0 (by omega)
      rw [Nat.mul_one] at x0
      have x0 : wr.cell? (ad.add k) = some (.slice (R k).A (R k).n (R k).c) := x0
      have i1 : (k : Int) < (n : Int) := by omega
      have d1 : decide ((k : Int) < (n : Int)) = true := decide_eq_true i1
      have HROW : Hid (Row 5 (rx (R k).q) wr (R k).A (R k).n) := Lib.hid ((HA.out.each k hlt).row.later HBL.out)
      have HNIL := Lib.hid (HA.out.nil k hlt)
      have HSZ : Hid (jn R k + (R k).n ≤ 2000000) := Lib.hid (Nat.le_trans (Nat.le_trans (jn_mono R (show k + 1 ≤ n from hlt)) HJ.out) (by decide))
      have HW : Hid (w.heap.size ≤ wr.heap.size) := Lib.hid HBL.out.size
      go_wp2_with (at_builtin; go_must (refine wpList_append_rowB _ rfl _ _ 25 52 rfl 5 56 (.agg #[.int .i64 0, .slice none 0 0, .int .i64 0, .int .i64 0, .int .u64 0]) Try.underlying25 infoRec rfl (by decide) (by decide) w.heap.size _ (jn R k) (rcells 5 (rx (jq R k)) (jn R k)) rfl HO.out (R k).A (R k).n (R k).c (rx (R k).q) (rx_one (R k).q) rfl HROW.out HNIL.out HSZ.out HW.out ?_); intro v4 w4 hown4 hg4; have H4 := Lib.hid hown4; have G4 := Lib.hid hg4; clear hown4 hg4)
      go_roundw
      case rel =>
        refine ⟨k + 1, by omega, by go_num, by have := H4.out; rw [← rcells_jq] at this; exact this, ?_⟩
        exact HBL.out.grown G4.out HBL.out.size (fun r e => (HO.out.lt r e).1)
      case measure => simp [intOf]; omega
    · obtain rfl : k = n := by omega
      have d1 : decide ((k : Int) < (k : Int)) = false := decide_eq_false (by omega)
      go_wp2_with fail
      go_ret
      obtain ⟨A, d, rfl, hle, -, hnn, hr⟩ := own_row HO.out
      exact ⟨A, d, rfl, hle, hnn, HA.out.joined HBL.out hr, HBL.out⟩
set_option maxRecDepth 100000 in
set_option maxHeartbeats 16000000 in
theorem walTorn_walk {H : Type} {enc : TypeId × Value → H} {r1 : Reach} {b1 : Nat} {v1 : Value} {d1 : DataW H} {p1 : List MemPlace} (w : World)
    (g : Int) (_wg : (Lit.int .i64 g).wf = true)
    (o1 : Value.okWide Try.prog w r1 b1 22 v1) (k1 : DataW.Trod enc Try.prog w 0 (fun _ => true) true 22 v1 d1 p1) (hd1 : Rows.uptoBulk d1 ≤ 1048576) (at_ : Int) (_wat : (Lit.int .i64 at_).wf = true) :
    Calls Try.prog 4 #[.int .i64 g, v1, .int .i64 at_] w fun e w' => e = .returned (.bool true) ∧ Below w.heap.size w w' := by
  obtain ⟨C, n, c, R, rfl, hn, hB, hbulk⟩ := open_rows o1 k1
  have HR := Lib.hid hB; have HBULK := Lib.hid (Nat.le_trans hbulk hd1)
  clear o1 k1 hB hbulk hd1
  go_enter Try.func4, Try.ntmps4
  go_wp2_with fail
  refine (works_any _).mono ?_; rintro e w1 ⟨rfl, hb1⟩
  have HB1 := Lib.hid hb1
  clear hb1
  by_cases hn8 : n ≤ 8
  · have d1 : decide ((n : Int) ≤ 8) = true := decide_eq_true (by omega)
    have HJ := Lib.hid (fun U (hU : Below w.heap.size w U) => joinedN_any C n c R U (HR.out.later hU) (by omega) HBULK.out)
    go_wp2_with fail
    refine (HJ.out _ HB1.out).mono ?_; rintro e w2 ⟨A2, c2, rfl, -, -, hr2, hb2⟩
    have HR2 := Lib.hid hr2; have HB2 := Lib.hid (below_step HB1.out hb2)
    clear hb2 HB1 hr2
    go_wp2_with fail
    refine (FewRecs_any A2 (jn R n) c2 (by have := HBULK.out; unfold maxLen; omega) (jq R n) _ HR2.out).mono ?_; rintro e w3 ⟨rfl, hb3⟩
    have HB3 := Lib.hid (below_step HB2.out hb3)
    clear hb3 HB2 HR2
    obtain ⟨f1, hf1⟩ : ∃ f1, f1 = fewR (jq R n) (jn R n) := ⟨_, rfl⟩
    rw [← hf1]
    have HF1 := Lib.hid hf1
    clear hf1
    cases f1 with
    | false =>
      go_wp2_with fail
      go_ret
      exact ⟨rfl, HB3.out⟩
    | true =>
      have hin := HR.out.in_ HF1.out.symm
      have HIN := Lib.hid hin; have HF := Lib.hid HF1.out
      have HSG := Lib.hid (fun U (hU : Below w.heap.size w U) => segment_any g C n c R hn8 U (hin.later hU))
      clear HF1 hin d1
      have d1 : decide ((n : Int) ≤ 8) = true := decide_eq_true (by omega)
      have HN8 := Lib.hid hn8
      clear hn8
      go_wp2_with fail
      refine (HSG.out _ HB3.out).mono ?_; rintro e w4 ⟨s, E, C2, p, rfl, hb4, hs⟩
      have HB4 := Lib.hid (below_step HB3.out hb4)
      have HS := Lib.hid hs
      clear hb4 hs HSG HB3
      cases p with
      | false =>
        go_wp2_with fail
        go_ret
        exact ⟨rfl, HB4.out⟩
      | true =>
        obtain ⟨es, hga, hoa, hen, hcn⟩ := HS.out rfl
        have zs := segz HIN.out hoa
        rw [← es] at zs
        have zlo : 10 ≤ s.size := by rw [es, ByteArray.size_append, Wa.hd_size]; omega
        have hnn := HN8.out
        obtain ⟨a2, ha2⟩ : ∃ a2 : Nat, (a2 : Int) = min (max at_ 10) (s.size : Int) := ⟨(min (max at_ 10) (s.size : Int)).toNat, by omega⟩
        have a2lo : 10 ≤ a2 := by omega
        have a2hi : a2 ≤ s.size := by omega
        obtain ⟨m, hcut⟩ := seg_cut HIN.out hga hoa es a2lo a2hi
        obtain ⟨X, hX⟩ : ∃ X, X = Wa.read (s.extract 0 a2) := ⟨_, rfl⟩
        obtain ⟨Y, hY⟩ : ∃ Y, Y = Wa.read (s.extract 0 X.used) := ⟨_, rfl⟩
        rw [← hX, ← hY] at hcut
        have HRS := Lib.hid (fun U => lawRead_any (s.extract 0 a2) (by rw [ByteArray.size_extract]; omega) U)
        have HRT := Lib.hid (fun U => lawRead_any (s.extract 0 X.used) (by rw [ByteArray.size_extract]; omega) U)
        unfold LawRead at HRS HRT
        rw [← hX] at HRS
        rw [← hY] at HRT
        have HCUT := Lib.hid hcut
        obtain ⟨A4, c4, rfl, -, -, -, her⟩ := own_row hen
        obtain ⟨A5, c5, rfl, -, -, -, hcr⟩ := own_row hcn
        obtain ⟨ad, rfl, z0, -⟩ := her.at_ (Below.refl _ _) (show 0 < n + 1 by omega)
        have z0 := z0 (by decide)
        rw [Nat.zero_mul, addr_zero] at z0
        have z1 : w4.cell? ad = some (.int .i64 10) := z0
        clear z0
        obtain ⟨bd, rfl, -, -⟩ := hcr.at_ (Below.refl _ _) (show 0 < n + 1 by omega)
        have HEN := Lib.hid her; have HCN := Lib.hid hcr
        clear hen hcn her hcr es zs hga hoa HS hX hY hcut
        have i0 : (0 : Int) < ((n + 1 : Nat) : Int) := by omega
        go_upto_region 11 with fail
        rw [← ha2]
        clear ha2
        have i2 : ((a2 : Nat) : Int) ≤ ((s.size : Nat) : Int) := by omega
        have i3 : (0 : Int) ≤ ((a2 : Nat) : Int) := by omega
        clear z1
        go_wp2_with fail
        try rw [Int.toNat_natCast]
        refine (HRS.out _).mono ?_; rintro e w5 ⟨Ax, cx, Bx, dx, qx, rfl, hs5, hb5⟩
        rw [HCUT.out.xe]
        have hxl : X.recs.length = m := by rw [HCUT.out.recs, List.length_take, List.length_map, List.length_range]; exact Nat.min_eq_left HCUT.out.many
        rw [hxl]
        obtain ⟨w6, hw6⟩ : ∃ w6, w6 = w5.alloc (.cells #[.int .i64 (X.flags : Int), .slice Ax m cx, .int .i64 (X.used : Int), .bool X.torn, .int .i64 (X.gen : Int), .slice Bx X.keys.length dx] 34) := ⟨_, rfl⟩
        have hb6 : Below w5.heap.size w5 w6 := by rw [hw6]; exact (Below.refl _ _).alloc (Nat.le_refl _) _
        have hx6 : w6.heap[w5.heap.size]? = some (.cells #[.int .i64 (X.flags : Int), .slice Ax m cx, .int .i64 (X.used : Int), .bool X.torn, .int .i64 (X.gen : Int), .slice Bx X.keys.length dx] 34 (0, 0)) := by rw [hw6]; exact heap_alloc_new w5 _
        obtain ⟨bx, hbx⟩ : ∃ bx, bx = w5.heap.size := ⟨_, rfl⟩
        rw [← hbx] at hx6
        have HX6 := Lib.hid hx6; have HS6 := Lib.hid (hs5.later hb6); have HB6 := Lib.hid (below_step HB4.out (below_step hb5 hb6)); have HXL := Lib.hid hxl
        have HEN6 := Lib.hid (HEN.out.later (below_step hb5 hb6)); have HCN6 := Lib.hid (HCN.out.later (below_step hb5 hb6))
        clear hs5 hb5 hb6 hx6 HRS hxl HEN HCN
        go_upto_region 12 with fail
        rw [← hw6, ← hbx]
        clear hw6 hbx
        obtain ⟨tq, htq⟩ : ∃ tq, tq = X.torn := ⟨_, rfl⟩
        have hq : decide ((X.used : Int) < (a2 : Int)) = tq := by rw [htq, HCUT.out.torn]; exact decide_eq_decide.2 (by omega)
        rw [← htq] at HX6
        have hU2 := HCUT.out.used
        have hM2 := HCUT.out.many
        have n1 : decide ((a2 : Int) < (X.used : Int)) = false := decide_eq_false (by omega)
        have n2 : decide (((jn R n : Nat) : Int) < (m : Int)) = false := decide_eq_false (by omega)
        have n3 : (tq != tq) = false := by simp
        have HE : Hid (∀ U, Below w6.heap.size w6 U → ∀ k, k ≤ n → U.cell? (ad.add k) = some (.int .i64 ((10 + (Wa.rows g (wrow R) k).1.size : Nat) : Int))) := Lib.hid (fun U hU k hk => by
          obtain ⟨ad2, e2, z0, -⟩ := HEN6.out.at_ hU (show k < n + 1 by omega)
          cases e2
          have z0 := z0 (by decide)
          rw [Nat.mul_one] at z0
          exact z0)
        have HC : Hid (∀ U, Below w6.heap.size w6 U → ∀ k, k ≤ n → U.cell? (bd.add k) = some (.int .i64 ((jn R k : Nat) : Int))) := Lib.hid (fun U hU k hk => by
          obtain ⟨ad2, e2, z0, -⟩ := HCN6.out.at_ hU (show k < n + 1 by omega)
          cases e2
          have z0 := z0 (by decide)
          rw [Nat.mul_one] at z0
          exact z0)
        have n4 : (0 : Int) ≤ (n : Int) := by omega
        have n5 : (n : Int) < ((n + 1 : Nat) : Int) := by omega
        have n6 : ((n + 1 : Nat) : Int) - 1 = (n : Int) := by omega
        have n7 : (n : Int) < (n : Int) + 1 := by omega
        have n8 : IntKind.i64.wrap (n : Int) = (n : Int) := by have := HN8.out; rw [IntKind.wrap_i64]; omega
        have hqN : decide (X.used < a2) = tq := by rw [htq, HCUT.out.torn]
        clear htq HEN6 HCN6
        refine plain_T (fun U => Below w6.heap.size w6 U) [] (by kernel_rfl) ?_
        have HD : Hid (Below w6.heap.size w6 w6.drew) := Lib.hid (Below.refl _ _).drew
        generalize w6.drew = wd at HD ⊢
        refine wpAnyT_pick (S := (fun U => Below w6.heap.size w6 U)) (by kernel_rfl) Only.panic Only.keepsIn (w := wd) HD.out [0, 1, 2, 3, 4, 5, 6, 7, 8, 9, 10, 11, 12, 13, 14, 15, 16, 17, 18, 19, 20, 21, 22, 23, 24, 25, 26, 27, 28] 0 _ _ (by kernel_rfl) ?_
        refine PickT.value (d := some 59) (.int .i64 0) rfl rfl (by kernel_rfl) (fun U hU => (by go_simp)) ?_
        refine PickT.value (d := some 60) (.bool false) rfl rfl (by kernel_rfl) (fun U hU => (by go_simp)) ?_
        refine PickT.value (d := some 61) (.bool false) rfl rfl (by kernel_rfl) (fun U hU => (by go_simp)) ?_
        refine PickT.value (d := some 62) (.pointer (some ⟨bx, 2, none⟩)) rfl rfl (by kernel_rfl) (fun U hU => (by go_simp)) ?_
        refine PickT.value (d := some 63) (.int .i64 (X.used : Int)) rfl rfl (by kernel_rfl) (fun U hU => (by have h0 : U.cell? ⟨bx, 2, none⟩ = some (.int .i64 (X.used : Int)) := cell_of_row _ _ _ _ _ _ (heap_keep HX6.out hU); go_simp)) ?_
        refine PickT.value (d := some 64) (.int .i64 ((a2 : Nat) : Int)) rfl rfl (by kernel_rfl) (fun U hU => (by go_simp)) ?_
        refine PickT.value (d := some 65) (.bool false) rfl rfl (by kernel_rfl) (fun U hU => (by go_simp)) ?_
        refine PickT.value (d := some 66) (.bool false) rfl rfl (by kernel_rfl) (fun U hU => (by go_simp)) ?_
        refine PickT.value (d := some 67) (.bool false) rfl rfl (by kernel_rfl) (fun U hU => (by go_simp)) ?_
        refine PickT.value (d := some 68) (.pointer (some ⟨bx, 3, none⟩)) rfl rfl (by kernel_rfl) (fun U hU => (by go_simp)) ?_
        refine PickT.value (d := some 69) (.bool tq) rfl rfl (by kernel_rfl) (fun U hU => (by have h0 : U.cell? ⟨bx, 3, none⟩ = some (.bool tq) := cell_of_row _ _ _ _ _ _ (heap_keep HX6.out hU); go_simp)) ?_
        refine PickT.value (d := some 70) (.pointer (some ⟨bx, 2, none⟩)) rfl rfl (by kernel_rfl) (fun U hU => (by go_simp)) ?_
        refine PickT.value (d := some 71) (.int .i64 (X.used : Int)) rfl rfl (by kernel_rfl) (fun U hU => (by have h0 : U.cell? ⟨bx, 2, none⟩ = some (.int .i64 (X.used : Int)) := cell_of_row _ _ _ _ _ _ (heap_keep HX6.out hU); go_simp)) ?_
        refine PickT.value (d := some 72) (.int .i64 ((a2 : Nat) : Int)) rfl rfl (by kernel_rfl) (fun U hU => (by go_simp)) ?_
        refine PickT.value (d := some 73) (.bool tq) rfl rfl (by kernel_rfl) (fun U hU => (by go_simp)) ?_
        refine PickT.value (d := some 74) (.bool false) rfl rfl (by kernel_rfl) (fun U hU => (by go_simp)) ?_
        refine PickT.value (d := some 75) (.bool false) rfl rfl (by kernel_rfl) (fun U hU => (by go_simp)) ?_
        refine PickT.value (d := some 76) (.bool false) rfl rfl (by kernel_rfl) (fun U hU => (by go_simp)) ?_
        refine PickT.value (d := some 77) (.pointer (some ⟨bx, 1, none⟩)) rfl rfl (by kernel_rfl) (fun U hU => (by go_simp)) ?_
        refine PickT.value (d := some 78) (.slice Ax m cx) rfl rfl (by kernel_rfl) (fun U hU => (by have h0 : U.cell? ⟨bx, 1, none⟩ = some (.slice Ax m cx) := cell_of_row _ _ _ _ _ _ (heap_keep HX6.out hU); go_simp)) ?_
        refine PickT.value (d := some 79) (.int .i64 (m : Int)) rfl rfl (by kernel_rfl) (fun U hU => (by go_simp)) ?_
        refine PickT.value (d := some 80) (.slice (some bd) (n + 1) c5) rfl rfl (by kernel_rfl) (fun U hU => (by go_simp)) ?_
        refine PickT.value (d := some 81) (.slice (some bd) (n + 1) c5) rfl rfl (by kernel_rfl) (fun U hU => (by go_simp)) ?_
        refine PickT.value (d := some 82) (.int .i64 ((n + 1 : Nat) : Int)) rfl rfl (by kernel_rfl) (fun U hU => (by go_simp)) ?_
        refine PickT.value (d := some 83) (.int .i64 (n : Int)) rfl rfl (by kernel_rfl) (fun U hU => (by go_simp)) ?_
        refine PickT.value (d := some 84) (.pointer (some (bd.add n))) rfl rfl (by kernel_rfl) (fun U hU => (by go_simp)) ?_
        refine PickT.value (d := some 85) (.int .i64 ((jn R n : Nat) : Int)) rfl rfl (by kernel_rfl) (fun U hU => (by have h0 := HC.out U hU n (Nat.le_refl n); go_simp)) ?_
        refine PickT.value (d := some 86) (.bool false) rfl rfl (by kernel_rfl) (fun U hU => (by go_simp)) ?_
        refine PickT.value (d := some 87) (.bool false) rfl rfl (by kernel_rfl) (fun U hU => (by go_simp)) ?_
        simp only [PickT, Act.put, List.setIfInBounds_toArray, List.set_cons_zero, List.set_cons_succ]
        refine wpAnyT_done (by kernel_rfl) ?_ _
        refine only_mk ?_
        clear n1 n2 n3 n4 n5 n6 n7 n8 hq hqN hU2 hM2
        go_wp2_with fail
        refine (HJ.out _ (below_step HB6.out HD.out)).mono ?_; rintro e w7 ⟨A3, c3, rfl, hle3, hnn3, hr3, hb3⟩
        have HB67 := Lib.hid (below_step HD.out hb3)
        have hsr := fun (A9 : Option Addr) (c9 : Nat) (hA9 : 0 < m → A9 = A3) U (hU : Below w7.heap.size w7 U) => rRecs_any Ax A9 X.recs.length m cx c9 qx (jq R n) U (HS6.out.recs.later (below_step HB67.out hU)) (by
          have h1 := (hr3.in_ HF.out.symm).later hU
          refine ⟨fun h0 => ?_, fun i hi => h1.each i (Nat.lt_of_lt_of_le hi HCUT.out.many), Nat.le_trans HCUT.out.many h1.len⟩
          rw [hA9 h0]
          obtain ⟨x, e1, e2, e3⟩ := h1.row (Nat.lt_of_lt_of_le h0 HCUT.out.many)
          exact ⟨x, e1, e2, fun i hi => e3 i (Nat.lt_of_lt_of_le hi HCUT.out.many)⟩) (by have := HXL.out; have := HIN.out.few; have := HCUT.out.many; omega) (by rw [← HS6.out.list, HCUT.out.recs]; exact take_range _ HCUT.out.many)
        rw [HXL.out] at hsr
        have HSR := Lib.hid hsr
        have HLE := Lib.hid hle3; have HNN := Lib.hid hnn3
        clear hb3 hsr hr3 HD hle3 hnn3
        have HI5 : Hid ((m : Int) ≤ ((jn R n : Nat) : Int)) := Lib.hid (by have := HCUT.out.many; omega)
        go_upto_region 15 with fail
        refine plain_T (fun U => Below w7.heap.size w7 U) [] (by kernel_rfl) ?_
        have HD : Hid (Below w7.heap.size w7 w7.drew) := Lib.hid (Below.refl _ _).drew
        generalize w7.drew = wd at HD ⊢
        have i5 : m ≤ c3 := by have := HLE.out; have := HCUT.out.many; omega
        have i6 : (0 : Int) ≤ (m : Int) := by omega
        have i7 : (m : Int) ≤ (c3 : Int) := by omega
        refine wpAnyT_pick (S := (fun U => Below w7.heap.size w7 U)) (by kernel_rfl) Only.panic Only.keepsIn (w := wd) HD.out [0, 1, 2, 3, 4, 5, 6] 2 _ _ (by kernel_rfl) ?_
        refine PickT.value (d := some 90) (.pointer (some ⟨bx, 1, none⟩)) rfl rfl (by kernel_rfl) (fun U hU => (by go_simp)) ?_
        refine PickT.value (d := some 91) (.slice Ax m cx) rfl rfl (by kernel_rfl) (fun U hU => (by have h0 : U.cell? ⟨bx, 1, none⟩ = some (.slice Ax m cx) := cell_of_row _ _ _ _ _ _ (heap_keep HX6.out (below_step HB67.out hU)); go_simp)) ?_
        refine PickT.value (d := some 92) (.slice A3 (jn R n) c3) rfl rfl (by kernel_rfl) (fun U hU => (by go_simp)) ?_
        refine PickT.value (d := some 93) (.pointer (some ⟨bx, 1, none⟩)) rfl rfl (by kernel_rfl) (fun U hU => (by go_simp)) ?_
        refine PickT.value (d := some 94) (.slice Ax m cx) rfl rfl (by kernel_rfl) (fun U hU => (by have h0 : U.cell? ⟨bx, 1, none⟩ = some (.slice Ax m cx) := cell_of_row _ _ _ _ _ _ (heap_keep HX6.out (below_step HB67.out hU)); go_simp)) ?_
        refine PickT.value (d := some 95) (.int .i64 (m : Int)) rfl rfl (by kernel_rfl) (fun U hU => (by go_simp)) ?_
        refine PickT.value (d := some 96) (.slice A3 m c3) rfl rfl (by kernel_rfl) (fun U hU => (by (cases A3 with | none => go_simp | some sd => (have az := addr_zero sd; go_simp)))) ?_
        simp only [PickT, Act.put, List.setIfInBounds_toArray, List.set_cons_zero, List.set_cons_succ]
        refine wpAnyT_one (i := 7) (by kernel_rfl) rfl (by kernel_rfl) ?_
        intro K hK
        unfold Oper.wp
        go_simp
        refine (HSR.out A3 c3 (fun _ => rfl) _ HD.out).mono ?_; rintro e w8 ⟨rfl, hb8⟩
        have H8 := Lib.hid (below_step HD.out hb8)
        clear hb8 HSR
        refine hK _ _ (fun _ => H8.out) ?_
        clear hK K
        refine wpAnyT_pick (S := (fun U => Below w7.heap.size w7 U)) (by kernel_rfl) Only.panic Only.keepsIn (w := w8) H8.out [8] 0 _ _ (by kernel_rfl) ?_
        refine PickT.value (d := some 98) (.bool false) rfl rfl (by kernel_rfl) (fun U hU => (by go_simp)) ?_
        simp only [PickT, Act.put, List.setIfInBounds_toArray, List.set_cons_zero, List.set_cons_succ]
        refine wpAnyT_done (by kernel_rfl) ?_ _
        refine only_mk ?_
        have HB68 := Lib.hid (below_step HB67.out H8.out)
        clear H8 HD HB67 i5 i6 i7 HNN HLE
        have HRO := Lib.hid HIN.out.row; have HA10 := Lib.hid a2lo
        go_wp2_with fail
        go_loopw [16] (fun i wr => ∃ k : Nat, k ≤ n + 1 ∧ i = .int .i64 k ∧ Below w6.heap.size w6 wr) (fun i _ => n + 1 - (intOf i).toNat)
        case atStart => exact ⟨0, by omega, rfl, HB68.out⟩
        case round =>
          obtain ⟨k, hk, rfl, hb⟩ := hrel
          have HB := Lib.hid hb
          clear hb
          have i0 : (0 : Int) ≤ (k : Int) := by omega
          by_cases hlt : k < n + 1
          · have i1 : (k : Int) < ((n + 1 : Nat) : Int) := by omega
            have i2 : (k : Int) < (n : Int) + 1 := by omega
            have i3 : k < n + 1 := hlt
            have e0 := HE.out wr HB.out k (by omega)
            have e1 := HC.out wr HB.out k (by omega)
            have e2 : wr.cell? ad = some (.int .i64 10) := by
              have := HE.out wr HB.out 0 (by omega)
              rw [addr_zero] at this
              exact this
            have x1 := cell_of_row _ _ 1 _ _ _ (heap_keep HX6.out HB.out)
            simp only [List.getElem?_toArray, List.getElem?_cons_zero, List.getElem?_cons_succ] at x1
            have hw := HCUT.out.whole k (by omega)
            have a10 := HA10.out
            by_cases hEa : 10 + (Wa.rows g (wrow R) k).1.size ≤ a2
            · have hm := hw hEa
              generalize jn R k = J at *
              obtain ⟨E, hE⟩ : ∃ E, E = 10 + (Wa.rows g (wrow R) k).1.size := ⟨_, rfl⟩
              rw [← hE] at e0 hEa
              clear hE hw
              have g1 : decide ((E : Int) ≤ (a2 : Int)) = true := decide_eq_true (by omega)
              have g2 : decide ((m : Int) < (J : Int)) = false := decide_eq_false (by omega)
              have g3 : decide ((a2 : Int) < (E : Int)) = false := decide_eq_false (by omega)
              have g1n : decide (E ≤ a2) = true := decide_eq_true (by omega)
              have g2n : decide (m < J) = false := decide_eq_false (by omega)
              have g3n : decide (a2 < E) = false := decide_eq_false (by omega)
              by_cases h3 : g = 3
              · have g4 : decide (g = 3) = true := decide_eq_true h3
                have g5 : (g == 3) = true := by simp [h3]
                clear h3 hEa hm
                go_wp2_with fail
                go_quiet (fail)
                go_wp2_with fail
                go_roundw
                case rel => exact ⟨k + 1, by omega, by go_num, below_drewN HB.out _⟩
                case measure => simp [intOf]; omega
              · have g4 : decide (g = 3) = false := decide_eq_false h3
                have g5 : (g == 3) = false := by simp [h3]
                clear h3 hEa hm
                go_wp2_with fail
                go_quiet (fail)
                go_wp2_with fail
                go_roundw
                case rel => exact ⟨k + 1, by omega, by go_num, below_drewN HB.out _⟩
                case measure => simp [intOf]; omega
            · obtain ⟨E, hE⟩ : ∃ E, E = 10 + (Wa.rows g (wrow R) k).1.size := ⟨_, rfl⟩
              have hthree := HCUT.out.three
              have g1 : decide ((E : Int) ≤ (a2 : Int)) = false := decide_eq_false (by omega)
              have g3 : decide ((a2 : Int) < (E : Int)) = true := decide_eq_true (by omega)
              have g6 : decide ((10 : Int) < (E : Int)) = true := decide_eq_true (by omega)
              have g1n : decide (E ≤ a2) = false := decide_eq_false (by omega)
              have g3n : decide (a2 < E) = true := decide_eq_true (by omega)
              have g6n : decide (10 < E) = true := decide_eq_true (by omega)
              rw [← hE] at e0
              by_cases h3 : g = 3
              · have g4 : decide (g = 3) = true := decide_eq_true h3
                have g5 : (g == 3) = true := by simp [h3]
                by_cases hmJ : m < jn R k
                · generalize jn R k = J at *
                  have g7 : decide ((J : Int) ≤ (m : Int)) = false := decide_eq_false (by omega)
                  have g7n : decide (J ≤ m) = false := decide_eq_false (by omega)
                  clear h3 hEa hE hw hmJ hthree
                  go_wp2_with fail
                  go_quiet (fail)
                  go_wp2_with fail
                  go_roundw
                  case rel => exact ⟨k + 1, by omega, by go_num, below_drewN HB.out _⟩
                  case measure => simp [intOf]; omega
                · by_cases hJ0 : jn R k = 0
                  · generalize jn R k = J at *
                    have g7 : decide ((J : Int) ≤ (m : Int)) = true := decide_eq_true (by omega)
                    have g7n : decide (J ≤ m) = true := decide_eq_true (by omega)
                    have g8 : decide ((0 : Int) < (J : Int)) = false := decide_eq_false (by omega)
                    have g8n : decide (0 < J) = false := decide_eq_false (by omega)
                    clear h3 hEa hE hw hmJ hthree hJ0
                    go_wp2_with fail
                    go_quiet (fail)
                    go_wp2_with fail
                    go_roundw
                    case rel => exact ⟨k + 1, by omega, by go_num, below_drewN HB.out _⟩
                    case measure => simp [intOf]; omega
                  · have hk0 : k ≠ 0 := fun e => hJ0 (by rw [e]; rfl)
                    obtain ⟨k', hk'⟩ : ∃ k', k = k' + 1 := ⟨k - 1, by omega⟩
                    have hz : (R k').n = 0 := by
                      rcases Nat.eq_zero_or_pos (R k').n with h | h
                      · exact h
                      · exact absurd (hthree h3 k' (by omega) (by rw [← hk']; omega) h) (by rw [← hk']; exact hmJ)
                    generalize jn R k = J at *
                    have g7 : decide ((J : Int) ≤ (m : Int)) = true := decide_eq_true (by omega)
                    have g7n : decide (J ≤ m) = true := decide_eq_true (by omega)
                    have g8 : decide ((0 : Int) < (J : Int)) = true := decide_eq_true (by omega)
                    have g8n : decide (0 < J) = true := decide_eq_true (by omega)
                    obtain ⟨ld, rfl, x0, -⟩ := HRO.out.at_ (below_step HB6.out HB.out) (show k' < n by omega)
                    have xl : wr.cell? (ld.add k') = some (.slice (R k').A 0 (R k').c) := by
                      have h1 := x0 (by decide)
                      rw [Nat.mul_one] at h1
                      have h2 : wr.cell? (ld.add k') = some (.slice (R k').A (R k').n (R k').c) := h1
                      rw [hz] at h2
                      exact h2
                    have k1 : (k : Int) - 1 = (k' : Int) := by omega
                    have k2 : IntKind.i64.wrap (k' : Int) = (k' : Int) := by have := HN8.out; rw [IntKind.wrap_i64]; omega
                    have k3 : (0 : Int) ≤ (k' : Int) := by omega
                    have k4 : (k' : Int) < (n : Int) := by omega
                    have k5 : k' < n := by omega
                    clear h3 hEa hE hw hmJ hthree hJ0 x0 hz hk0 hk'
                    go_wp2_with fail
                    go_quiet (fail)
                    go_wp2_with fail
                    go_roundw
                    case rel => exact ⟨k + 1, by omega, by go_num, below_drewN HB.out _⟩
                    case measure => simp [intOf]; omega
              · have g4 : decide (g = 3) = false := decide_eq_false h3
                have g5 : (g == 3) = false := by simp [h3]
                generalize jn R k = J at *
                clear h3 hEa hE hw hthree
                go_wp2_with fail
                go_quiet (fail)
                go_wp2_with fail
                go_roundw
                case rel => exact ⟨k + 1, by omega, by go_num, below_drewN HB.out _⟩
                case measure => simp [intOf]; omega
          · obtain rfl : k = n + 1 := by omega
            have i1 : decide (((n + 1 : Nat) : Int) < ((n + 1 : Nat) : Int)) = false := decide_eq_false (by omega)
            have x2 := cell_of_row _ _ 2 _ _ _ (heap_keep HX6.out HB.out)
            simp only [List.getElem?_toArray, List.getElem?_cons_zero, List.getElem?_cons_succ] at x2
            have HXR := Lib.hid (heap_keep HX6.out HB.out)
            have HBR := Lib.hid (below_step HB6.out HB.out); have HSR := Lib.hid (HS6.out.later HB.out)
            have j1 : (X.used : Int) ≤ (s.size : Int) := by have := HCUT.out.used; omega
            have j2 : (0 : Int) ≤ (X.used : Int) := by omega
            have j3 : X.used ≤ s.size := by omega
            clear HB HX6 HE HC HRO HS6
            go_upto_region 22 with fail
            go_wp2_with fail
            try rw [Int.toNat_natCast]
            refine (HRT.out _).mono ?_; rintro e w9 ⟨Ay, cy, By, dy, qy, rfl, hs9, hb9⟩
            rw [HCUT.out.ye, HCUT.out.yt]
            obtain ⟨w10, hw10⟩ : ∃ w10, w10 = w9.alloc (.cells #[.int .i64 (Y.flags : Int), .slice Ay Y.recs.length cy, .int .i64 (Y.used : Int), .bool false, .int .i64 (Y.gen : Int), .slice By Y.keys.length dy] 34) := ⟨_, rfl⟩
            have hb10 : Below w9.heap.size w9 w10 := by rw [hw10]; exact (Below.refl _ _).alloc (Nat.le_refl _) _
            have hy10 : w10.heap[w9.heap.size]? = some (.cells #[.int .i64 (Y.flags : Int), .slice Ay Y.recs.length cy, .int .i64 (Y.used : Int), .bool false, .int .i64 (Y.gen : Int), .slice By Y.keys.length dy] 34 (0, 0)) := by rw [hw10]; exact heap_alloc_new w9 _
            obtain ⟨by_, hby⟩ : ∃ by_, by_ = w9.heap.size := ⟨_, rfl⟩
            rw [← hby] at hy10
            have hb := below_step hb9 hb10
            have hx10 := heap_keep HXR.out hb
            have hsr := rRecs_any Ax Ay X.recs.length Y.recs.length cx cy qx qy w10 (HSR.out.recs.later hb) (hs9.recs.later hb10) (by have := HXL.out; have := HIN.out.few; have := HCUT.out.many; omega) (HSR.out.list.symm.trans (HCUT.out.yr.symm.trans hs9.list))
            rw [HXL.out] at hsr
            have HSS := Lib.hid hsr; have HB10 := Lib.hid (below_step HBR.out hb)
            clear x2
            have x1 := cell_of_row _ _ 1 _ _ _ hx10; have y1 := cell_of_row _ _ 1 _ _ _ hy10; have y3 := cell_of_row _ _ 3 _ _ _ hy10
            simp only [List.getElem?_toArray, List.getElem?_cons_zero, List.getElem?_cons_succ] at x1 y1 y3
            clear hs9 hb9 hb10 hy10 hb hx10 hsr HRT HXR HSR HBR j1 j2 j3 HCUT
            go_upto_region 23 with fail
            rw [← hw10, ← hby]
            clear hw10 hby
            go_wp2_with fail
            refine HSS.out.mono ?_; rintro e w11 ⟨rfl, hb11⟩
            have HB11 := Lib.hid (below_step HB10.out hb11)
            clear hb11
            go_wp2_with fail
            go_ret
            exact ⟨rfl, HB11.out⟩
  · have d1 : decide ((n : Int) ≤ 8) = false := decide_eq_false (by omega)
    go_wp2_with fail
    go_ret
    exact ⟨rfl, HB1.out⟩
end Go.Proofs.Ytaillfnmaiiapaa
