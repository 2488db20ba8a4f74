/-
  A file crashes.
-/
import Derived.Test.YtgpmomjdjakklaaSfT
namespace Go.Proofs.Ytgpmomjdjakklaa
open Go.RowKit
theorem nil_torn (T : TypeId) (f : Nat) (v : Value) (h : (T = 74 ∧ f = 102) ∨ (T = 96 ∧ f = 106)) (w : World) :
    (nilAhead 240 T v "alluvium/simfs.torn").run Try.prog w = .ok (some false) w ∧ (method 240 T v "alluvium/simfs.torn").run Try.prog w = .ok (f, v) w := by
  rcases h with ⟨rfl, rfl⟩ | ⟨rfl, rfl⟩
  · exact ⟨by kernel_rfl, by kernel_rfl⟩
  · exact ⟨by kernel_rfl, by kernel_rfl⟩
theorem torn_iface (c : Sf.Wr) : ∃ T v f, c.val = .iface T v ∧ (∀ U, (nilAhead 240 T v "alluvium/simfs.torn").run Try.prog U = .ok (some false) U) ∧ (∀ U, (method 240 T v "alluvium/simfs.torn").run Try.prog U = .ok (f, v) U) ∧ (∀ args w, (callFunc f args).run Try.prog w = .ok (.enter f args) w) ∧
    ∀ (B : Nat) (b : ByteArray) (w : World) (A : Option Addr) (kc : Nat) (k : Sf.Keep) (place : Nat), B ≤ 1000000000 → c.ok B b → place ≤ 1000000000 → KeepIn w A kc k → Calls Try.prog f #[v, .string b, .slice A k.n kc, .int .i64 (place : Int)] w fun e w' => e = .returned (.string (Sf.torn k place c b)) ∧ Below w.heap.size w w' := by
  cases c with
  | app x =>
    refine ⟨_, _, _, rfl, fun U => (nil_torn _ _ _ (.inl ⟨rfl, rfl⟩) U).1, fun U => (nil_torn _ _ _ (.inl ⟨rfl, rfl⟩) U).2, enters_of Try.func102 (by kernel_rfl) rfl, ?_⟩
    intro B b w A kc k place hB hc hp hk
    exact tornA_any x b A kc k place hp (Nat.le_trans hc hB) w hk
  | cut n =>
    refine ⟨_, _, _, rfl, fun U => (nil_torn _ _ _ (.inr ⟨rfl, rfl⟩) U).1, fun U => (nil_torn _ _ _ (.inr ⟨rfl, rfl⟩) U).2, enters_of Try.func106 (by kernel_rfl) rfl, ?_⟩
    intro B b w A kc k place _ _ _ _
    exact tornC_any n b _ _ w
theorem take_succ_getD {c0 : Sf.Wr} : ∀ (L : List Sf.Wr) (i : Nat), i < L.length → L.take (i + 1) = L.take i ++ [L.getD i c0]
  | [], _, h => absurd h (Nat.not_lt_zero _)
  | _ :: _, 0, _ => rfl
  | c :: L, i + 1, h => by
    have := take_succ_getD (c0 := c0) L i (by simpa using h)
    simp only [List.take_succ_cons, List.cons_append, this]
    simp
theorem getD_getElem {c0 : Sf.Wr} (L : List Sf.Wr) (i : Nat) (h : i < L.length) : L.getD i c0 = L[i] := by simp [List.getD, h]
set_option maxRecDepth 100000 in
set_option maxHeartbeats 2000000 in
theorem crash_any {w : World} {base : Nat} {X : Sf.File} {x : Nat} {cv : Value} (hf : FileAt w base x X cv) {B N : Nat} (hok : Sf.FileOk B N X) (hN : N ≤ 1000) (hB : B ≤ 1000000000) {A : Option Addr} {kc : Nat} {k : Sf.Keep} (hk : KeepIn w A kc k) (place : Nat) (hp : place ≤ 100000000) :
    Calls Try.prog 39 #[.pointer (some ⟨x, 0, none⟩), .slice A k.n kc, .int .i64 (place : Int)] w fun e w' => e = .returned (.tuple #[]) ∧ w.grownBy w' (some x) ∧
      w'.heap[x]? = some (.cells #[.string (X.survive k place), .string (X.survive k place), .slice none 0 0] 66 (0, 0)) := by
  have hm : X.chg.length ≤ 1000 := Nat.le_trans hok.few hN
  have hle := Sf.share_le k place X.chg.length
  have hsv : X.survive k place = if h : Sf.share k place X.chg.length < X.chg.length then Sf.torn k (place + 1) (X.chg.getD (Sf.share k place X.chg.length) (.cut 0)) (Sf.replay X.synced (X.chg.take (Sf.share k place X.chg.length))) else Sf.replay X.synced (X.chg.take (Sf.share k place X.chg.length)) := by
    unfold Sf.File.survive
    dsimp only
    split
    · rename_i c hc
      obtain ⟨h1, h2⟩ := List.getElem?_eq_some_iff.1 hc
      rw [dif_pos h1, getD_getElem _ _ h1, h2]
    · rename_i hc
      rw [dif_neg (by have := List.getElem?_eq_none_iff.1 hc; omega)]
  have HSV := Lib.hid hsv
  obtain ⟨A1, c1, hcv, hc1, hc2, hnone, hrow⟩ := own_row hf.row
  have hblk := hf.blk
  rw [hcv] at hblk
  have HBK := Lib.hid hblk; have HROW := Lib.hid hrow; have HK := Lib.hid hk
  have HSH := Lib.hid (keep_share hk place X.chg.length (by omega) (by omega))
  have HRC : Hid (∀ i, i < X.chg.length → (X.chg.getD i (.cut 0)).ok B (Sf.replay X.synced (X.chg.take i))) := Lib.hid (fun i hi => by rw [getD_getElem _ _ hi]; exact Sf.oks_at _ _ _ hi hok.oks)
  have HRS : Hid (∀ i, i < X.chg.length → Sf.replay X.synced (X.chg.take (i + 1)) = (X.chg.getD i (.cut 0)).write (Sf.replay X.synced (X.chg.take i))) := Lib.hid (fun i hi => by rw [take_succ_getD (c0 := .cut 0) _ _ hi, Sf.replay_snoc])
  have k1 : w.cell? ⟨x, 1, none⟩ = some (.string X.synced) := cell_of_row _ _ _ _ _ _ hblk
  have k2 : w.cell? ⟨x, 2, none⟩ = some (.slice A1 X.chg.length c1) := cell_of_row _ _ _ _ _ _ hblk
  generalize hsv : X.survive k place = R at *
  generalize hnn : Sf.share k place X.chg.length = n at *
  generalize hml : X.chg.length = m at *
  have hr0 : Sf.replay X.synced (X.chg.take 0) = X.synced := rfl
  clear hsv hf hok hk hblk hrow hcv hnn hml
  have i1 : (n : Int) ≤ (c1 : Int) := by omega
  have i2 : (0 : Int) ≤ (n : Int) := by omega
  go_enter Try.func39, Try.ntmps39
  go_wp2_with fail
  refine HSH.out.mono ?_; rintro e w9 ⟨rfl, hw9⟩
  rw [hw9]
  clear hw9
  go_wp2_with fail
  go_loopw [6, 9, 29] (fun vb _ vi wr => ∃ i : Nat, vi = .int .i64 (i : Int) ∧ i ≤ n ∧ vb = .string (Sf.replay X.synced (X.chg.take i)) ∧ Below w.heap.size w wr) (fun _ _ vi _ => n - (intOf vi).toNat)
  case atStart => exact ⟨0, rfl, Nat.zero_le _, rfl, Below.refl _ _⟩
  case round =>
    obtain ⟨i, rfl, hin, rfl, hbel⟩ := hrel
    have HBL := Lib.hid hbel
    by_cases hlt : i < n
    · have him : i < m := by omega
      obtain ⟨ad, rfl, x0, -⟩ := HROW.out.at_ hbel him
      have x0 := x0 (by omega)
      rw [Nat.mul_one] at x0
      obtain ⟨T, v, f, hv, hna, hme, hfn, hcall⟩ := wr_iface (X.chg.getD i (.cut 0))
      have e0 : wx X.chg i 0 = .iface T v := hv
      rw [e0] at x0
      have HC := Lib.hid (hcall B _ wr hB (HRC.out i him))
      have HST := Lib.hid (HRS.out i him)
      generalize Sf.replay X.synced (X.chg.take i) = b at *
      generalize hb2 : Sf.replay X.synced (X.chg.take (i + 1)) = b2 at *
      rw [← HST.out] at HC
      have HB2 := Lib.hid hb2
      have d0 : decide ((i : Int) < (n : Int)) = true := decide_eq_true (by omega)
      have j0 : (0 : Int) ≤ (i : Int) := by omega
      have j1 : (i : Int) < (n : Int) := by omega
      have hwr : IntKind.i64.wrap ((i : Int) + 1) = ((i + 1 : Nat) : Int) := by rw [Int.natCast_add]; exact IntWalk.i64_in _ (by omega)
      have hwr2 : wrap64 ((i : Int) + 1) = ((i + 1 : Nat) : Int) := by rw [Int.natCast_add]; exact IntWalk.wrap64_in _ (by omega)
      clear hcall e0 hv hb2 HST hbel hin
      go_wp2_with fail
      refine HC.out.mono ?_; rintro e w3 ⟨rfl, hb3⟩
      have HB3 := Lib.hid hb3
      clear hb3
      go_wp2_with fail
      go_roundw
      case rel => exact ⟨i + 1, rfl, by omega, by rw [HB2.out], below_step HBL.out HB3.out⟩
      case measure => simp [intOf]; omega
    · obtain rfl : i = n := by omega
      have d0 : decide ((i : Int) < (i : Int)) = false := decide_eq_false (by omega)
      have k3 : wr.cell? ⟨x, 2, none⟩ = some (.slice A1 m c1) := cell_of_row _ _ _ _ _ _ (heap_keep HBK.out hbel)
      have HEND : Hid (∀ w5, Below wr.heap.size wr w5 → w5.cell? ⟨x, 0, none⟩ = some (.string X.bytes) ∧ w5.cell? ⟨x, 1, none⟩ = some (.string X.synced) ∧ w5.cell? ⟨x, 2, none⟩ = some (.slice A1 m c1) ∧ w5.frozen? ⟨x, 0, none⟩ = false ∧ w5.frozen? ⟨x, 1, none⟩ = false ∧ w5.frozen? ⟨x, 2, none⟩ = false ∧
          w.grownBy (((w5.setCell ⟨x, 0, none⟩ (.string R)).setCell ⟨x, 1, none⟩ (.string R)).setCell ⟨x, 2, none⟩ (.slice none 0 0)) (some x) ∧
          (((w5.setCell ⟨x, 0, none⟩ (.string R)).setCell ⟨x, 1, none⟩ (.string R)).setCell ⟨x, 2, none⟩ (.slice none 0 0)).heap[x]? = some (.cells #[.string R, .string R, .slice none 0 0] 66 (0, 0))) := Lib.hid (fun w5 hb5 => by
        have hB5 := below_step HBL.out hb5
        have hB := heap_keep HBK.out hB5
        refine ⟨cell_of_row _ _ _ _ _ _ hB, cell_of_row _ _ _ _ _ _ hB, cell_of_row _ _ _ _ _ _ hB, frozen_of_row _ _ _ _ _ hB, frozen_of_row _ _ _ _ _ hB, frozen_of_row _ _ _ _ _ hB, ?_, ?_⟩
        · exact grown_trans (grown_of_below hB5) (grown_trans (grown_trans (grown_setCell w5 x 0 (.string R)) (grown_setCell _ x 1 (.string R))) (grown_setCell _ x 2 (.slice none 0 0)))
        · exact (heap_setCell_same _ x 2 _ _ (.slice none 0 0) (heap_setCell_same _ x 1 _ _ (.string R) (heap_setCell_same _ x 0 _ _ (.string R) hB))).trans rfl)
      by_cases hnm : i < m
      · obtain ⟨ad, rfl, x0, -⟩ := HROW.out.at_ hbel hnm
        have x0 := x0 (by omega)
        rw [Nat.mul_one] at x0
        obtain ⟨T, v, f, hv, hna, hme, hfn, hcall⟩ := torn_iface (X.chg.getD i (.cut 0))
        have e0 : wx X.chg i 0 = .iface T v := hv
        rw [e0] at x0
        have HC := Lib.hid (hcall B _ wr A kc k (place + 1) hB (HRC.out i hnm) (by omega) (HK.out.later hbel))
        have hR := HSV.out
        rw [dif_pos hnm] at hR
        rw [← hR] at HC
        generalize Sf.replay X.synced (X.chg.take i) = b at *
        have d1 : decide ((i : Int) < (m : Int)) = true := decide_eq_true (by omega)
        have j0 : (0 : Int) ≤ (i : Int) := by omega
        have j1 : (i : Int) < (m : Int) := by omega
        have hwr : IntKind.i64.wrap ((place : Int) + 1) = ((place + 1 : Nat) : Int) := by rw [Int.natCast_add]; exact IntWalk.i64_in _ (by omega)
        have hwr2 : wrap64 ((place : Int) + 1) = ((place + 1 : Nat) : Int) := by rw [Int.natCast_add]; exact IntWalk.wrap64_in _ (by omega)
        clear hcall e0 hv hbel hin hR HSV hsv
        go_wp2_with fail
        refine HC.out.mono ?_; rintro e w3 ⟨rfl, hb3⟩
        have HB3 := Lib.hid hb3
        clear hb3
        go_wp2_with fail
        refine (whole_any R _).mono ?_; rintro e w5 ⟨rfl, hb5⟩
        obtain ⟨z0, z1, z2, f0, f1, f2, hg, hbk⟩ := HEND.out w5 (below_step HB3.out hb5)
        have HG := Lib.hid (And.intro hg hbk)
        clear hg hbk hb5
        go_wp2_with fail
        go_end0
        exact ⟨rfl, HG.out⟩
      · have hR := HSV.out
        rw [dif_neg hnm] at hR
        rw [← hR]
        have d1 : decide ((i : Int) < (m : Int)) = false := decide_eq_false (by omega)
        clear hbel hin hR HSV hsv
        go_wp2_with fail
        refine (whole_any R _).mono ?_; rintro e w5 ⟨rfl, hb5⟩
        obtain ⟨z0, z1, z2, f0, f1, f2, hg, hbk⟩ := HEND.out w5 hb5
        have HG := Lib.hid (And.intro hg hbk)
        clear hg hbk hb5
        go_wp2_with fail
        go_end0
        exact ⟨rfl, HG.out⟩
end Go.Proofs.Ytgpmomjdjakklaa
