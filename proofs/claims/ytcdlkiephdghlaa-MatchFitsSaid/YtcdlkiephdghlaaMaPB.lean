/-
  What the references Fits, All, Select and Row come to.
-/
import Derived.Test.YtcdlkiephdghlaaMaNo
import Derived.Test.YtcdlkiephdghlaaLgB
import Derived.Test.YtcdlkiephdghlaaMaMo
namespace Go.Proofs.Ytcdlkiephdghlaa
open Go.RowKit
namespace Ma
theorem has_step (b : Nat → Bool) (k : Nat) : decide (0 < (sel b (k + 1)).length) = (decide (0 < (sel b k).length) || b k) := by
  rw [sel_step]
  cases b k <;> simp
end Ma
theorem own_later {w w2 : World} {base e size n : Nat} {v : Value} {xs : List Value} (h : w.ownsRow base e size v n xs) (hb : Below w.heap.size w w2) : w2.ownsRow base e size v n xs :=
  ⟨h.1, by
    rcases h.2 with h0 | ⟨g, cap, cur, h1, h2, h3, h4⟩
    · exact .inl h0
    · exact .inr ⟨g, cap, cur, h1, h2, heap_keep h3 hb, h4⟩⟩
set_option maxRecDepth 100000 in
set_option maxHeartbeats 2000000 in
theorem rFits_any (m : Mat) (A : Option Addr) (n c : Nat) (hn : n ≤ 1000000) (f : Nat → Lab) (w : World) (hA : LabRow w A n f) :
    Calls Try.prog 17 #[m.val, .slice A n c] w fun e w' => e = .returned (.bool (Ma.fits m f n)) ∧ Below w.heap.size w w' := by
  obtain ⟨mk, mn, mv⟩ := m
  unfold Mat.val
  have hal : Below w.heap.size w (w.alloc (.cells #[.int .i64 mk, .string mn, .string mv] 32)) := (Below.refl _ _).alloc (Nat.le_refl _) _
  have M1 : Hid (MatAt (w.alloc (.cells #[.int .i64 mk, .string mn, .string mv] 32)) w.heap.size mk mn mv) := Lib.hid (heap_alloc_new _ _)
  have B1 := Lib.hid hal
  have HA := Lib.hid hA
  have CG := Lib.hid (fun W hW => rGet_any' A n c (by unfold maxLen; omega) f mn W (hA.later hW))
  have hf : Ma.fits ⟨mk, mn, mv⟩ f n = if mk = 0 then decide (La.get f mn n 0 = mv) else if mk = 1 then !decide (La.get f mn n 0 = mv) else
    if mk = 2 then Ma.begins (La.get f mn n 0) mv else if mk = 3 then decide (0 < (Ma.sel (fun i => decide ((f i).1 = mn)) n).length) else false := rfl
  clear hal hA
  have hsb := str_beq (La.get f mn n 0) mv
  have hxb : (((La.get f mn n 0).extract 0 mv.size).toList == mv.toList) = decide ((La.get f mn n 0).extract 0 mv.size = mv) := str_beq _ _
  have hbg : Ma.begins (La.get f mn n 0) mv = (decide (mv.size ≤ (La.get f mn n 0).size) && decide ((La.get f mn n 0).extract 0 mv.size = mv)) := rfl
  generalize La.get f mn n 0 = gv at *
  have HF := Lib.hid hf; have HSB := Lib.hid hsb; have HXB := Lib.hid hxb; have HBG := Lib.hid hbg
  clear hf hsb hxb hbg
  obtain ⟨x0, x1, x2⟩ := M1.out.cells
  go_enter Try.func17, Try.ntmps17
  go_wp2_with fail
  refine (CG.out _ B1.out).mono ?_; rintro e w2 ⟨rfl, hb2⟩
  have B2 := Lib.hid (below_step B1.out hb2); have M2 := Lib.hid (M1.out.later hb2)
  clear hb2 x0 x1 x2 M1 B1
  go_wp2_with fail
  go_loopw [6, 7] (fun t i wr => ∃ k : Nat, k ≤ n ∧ i = .int .i64 k ∧ t = .bool (decide (0 < (Ma.sel (fun i => decide ((f i).1 = mn)) k).length)) ∧ Below w2.heap.size w2 wr) (fun _ i _ => n - (intOf i).toNat)
  case atStart => exact ⟨0, Nat.zero_le _, rfl, rfl, Below.refl _ _⟩
  case round =>
    obtain ⟨k, hk, rfl, rfl, hb⟩ := hrel
    have HB := Lib.hid (below_step B2.out hb); have HB2 := Lib.hid hb; have M3 := Lib.hid (M2.out.later hb)
    clear hb
    obtain ⟨x0, x1, x2⟩ := M3.out.cells
    by_cases hlt : k < n
    · obtain ⟨ad, rfl, c0, c1⟩ := HA.out.at_ HB.out hlt
      have hst := Ma.has_step (fun i => decide ((f i).1 = mn)) k
      have hbe := str_beq (f k).1 mn
      have i1 : (k : Int) < (n : Int) := by omega
      have i0 : (0 : Int) ≤ (k : Int) := by omega
      generalize (f k).1 = x at *
      generalize (f k).2 = y at *
      generalize decide (0 < (Ma.sel (fun i => decide ((f i).1 = mn)) k).length) = t at *
      rw [← hbe] at hst
      have HST := Lib.hid hst
      clear hst hbe
      cases t
      · go_wp2_with fail
        go_quiet (fail)
        go_wp2_with fail
        go_roundw
        case rel => exact ⟨k + 1, by omega, by go_num, by rw [HST.out, Bool.false_or], below_drewN HB2.out _⟩
        case measure => simp [intOf]; omega
      · go_wp2_with fail
        go_quiet (fail)
        go_wp2_with fail
        go_roundw
        case rel => exact ⟨k + 1, by omega, by go_num, by rw [HST.out, Bool.true_or], below_drewN HB2.out _⟩
        case measure => simp [intOf]; omega
    · obtain rfl : k = n := by omega
      have i1 : ¬ (k : Int) < (k : Int) := by omega
      have hth := Eq.refl (decide (0 < (Ma.sel (fun i => decide ((f i).1 = mn)) k).length))
      by_cases k0 : mk = 0
      · have e0 : (mk == 0) = true := by simp [k0]
        have HR : Hid (Ma.fits ⟨mk, mn, mv⟩ f k = (gv.toList == mv.toList)) := Lib.hid (by rw [HF.out, if_pos k0, HSB.out])
        clear k0
        go_wp2_with fail
        go_ret
        exact ⟨by rw [HR.out]; rfl, HB.out⟩
      have e0 : (mk == 0) = false := by simp [k0]
      by_cases k1 : mk = 1
      · have e1 : (mk == 1) = true := by simp [k1]
        have HR : Hid (Ma.fits ⟨mk, mn, mv⟩ f k = !(gv.toList == mv.toList)) := Lib.hid (by rw [HF.out, if_neg k0, if_pos k1, HSB.out])
        clear k0 k1
        go_wp2_with fail
        go_ret
        exact ⟨by rw [HR.out]; rfl, HB.out⟩
      have e1 : (mk == 1) = false := by simp [k1]
      by_cases k2 : mk = 2
      · have e2 : (mk == 2) = true := by simp [k2]
        have HR0 : Ma.fits ⟨mk, mn, mv⟩ f k = Ma.begins gv mv := by rw [HF.out, if_neg k0, if_neg k1, if_pos k2]
        rw [HBG.out] at HR0
        clear k0 k1 k2
        by_cases hl : mv.size ≤ gv.size
        · rw [decide_eq_true hl, Bool.true_and, ← HXB.out] at HR0
          have HR := Lib.hid HR0
          have d2 : decide ((mv.size : Int) ≤ (gv.size : Int)) = true := by simp; omega
          have i2 : (mv.size : Int) ≤ (gv.size : Int) := by omega
          have i3 : (0 : Int) ≤ (mv.size : Int) := by omega
          clear HR0
          go_wp2_with fail
          go_quiet (fail)
          go_wp2_with fail
          go_ret
          exact ⟨by rw [HR.out]; rfl, below_drewN HB.out _⟩
        · rw [decide_eq_false hl, Bool.false_and] at HR0
          have HR := Lib.hid HR0
          have d2 : decide ((mv.size : Int) ≤ (gv.size : Int)) = false := by simp; omega
          clear HR0
          go_wp2_with fail
          go_quiet (fail)
          go_wp2_with fail
          go_ret
          exact ⟨by rw [HR.out]; rfl, below_drewN HB.out _⟩
      have e2 : (mk == 2) = false := by simp [k2]
      by_cases k3 : mk = 3
      · have e3 : (mk == 3) = true := by simp [k3]
        have HR : Hid (Ma.fits ⟨mk, mn, mv⟩ f k = decide (0 < (Ma.sel (fun i => decide ((f i).1 = mn)) k).length)) := Lib.hid (by rw [HF.out, if_neg k0, if_neg k1, if_neg k2, if_pos k3])
        clear k0 k1 k2 k3
        generalize decide (0 < (Ma.sel (fun i => decide ((f i).1 = mn)) k).length) = t at *
        go_wp2_with fail
        go_ret
        exact ⟨by rw [HR.out]; rfl, HB.out⟩
      have e3 : (mk == 3) = false := by simp [k3]
      have HR : Hid (Ma.fits ⟨mk, mn, mv⟩ f k = false) := Lib.hid (by rw [HF.out, if_neg k0, if_neg k1, if_neg k2, if_neg k3])
      clear k0 k1 k2 k3
      go_wp2_with fail
      go_ret
      exact ⟨by rw [HR.out]; rfl, HB.out⟩
set_option maxRecDepth 100000 in
set_option maxHeartbeats 1000000 in
theorem rAll_any (B : Option Addr) (k cm : Nat) (hk : k ≤ 1000000) (m : Nat → Mat) (A : Option Addr) (n c : Nat) (hn : n ≤ 1000000) (f : Nat → Lab) (w : World) (hB : Row 3 (mx m) w B k) (hA : LabRow w A n f) :
    Calls Try.prog 15 #[.slice B k cm, .slice A n c] w fun e w' => e = .returned (.bool (Ma.all m k f n)) ∧ Below w.heap.size w w' := by
  have RB := Lib.hid hB; have HA := Lib.hid hA; clear hA hB
  go_enter Try.func15, Try.ntmps15
  go_wp2_with fail
  go_loopw [5] (fun i wr => ∃ p : Nat, p ≤ k ∧ i = .int .i64 p ∧ (∀ j, j < p → Ma.fits (m j) f n = true) ∧ Below w.heap.size w wr) (fun i _ => k - (intOf i).toNat)
  case atStart => exact ⟨0, Nat.zero_le _, rfl, (fun j hj => absurd hj (by omega)), Below.refl _ _⟩
  case round =>
    obtain ⟨p, hp, rfl, hall, hb⟩ := hrel
    have HE := Lib.hid hall; have HB := Lib.hid hb; clear hall hb
    by_cases hlt : p < k
    · obtain ⟨ad, rfl, c0, c1⟩ := RB.out.at_ HB.out hlt
      have e0 : wr.cell? (ad.add (p * 3)) = some (.int .i64 (m p).k) := c0 (by omega)
      have e1 : wr.cell? ⟨(ad.add (p * 3)).block, (ad.add (p * 3)).off + 1, none⟩ = some (.string (m p).n) := c1 1 (by omega) (by omega)
      have e2 : wr.cell? ⟨(ad.add (p * 3)).block, (ad.add (p * 3)).off + 2, none⟩ = some (.string (m p).v) := c1 2 (by omega) (by omega)
      have hva := rFits_any (m p) A n c hn f wr (HA.out.later HB.out)
      rw [show (m p).val = .agg #[.int .i64 (m p).k, .string (m p).n, .string (m p).v] from rfl] at hva
      have i1 : (p : Int) < (k : Int) := by omega
      have i0 : (0 : Int) ≤ (p : Int) := by omega
      clear c0 c1
      cases hr : Ma.fits (m p) f n
      · rw [hr] at hva
        have HR : Hid (Ma.all m k f n = false) := Lib.hid (by
          cases ha : Ma.all m k f n with
          | false => rfl
          | true => have := (Ma.all_iff m k f n).1 ha p hlt; rw [hr] at this; cases this)
        have HV := Lib.hid hva
        clear hva hr
        generalize (m p).k = xk at *
        generalize (m p).n = xn at *
        generalize (m p).v = xv at *
        go_wp2_with fail
        refine HV.out.mono ?_; rintro e w3 ⟨rfl, hb3⟩
        have HB3 := Lib.hid (below_step HB.out hb3); clear hb3
        go_wp2_with fail
        go_ret
        exact ⟨by rw [HR.out]; rfl, HB3.out⟩
      · rw [hr] at hva
        have HR := Lib.hid hr
        have HV := Lib.hid hva
        clear hva hr
        generalize hxk : (m p).k = xk at *
        generalize hxn : (m p).n = xn at *
        generalize hxv : (m p).v = xv at *
        clear hxk hxn hxv
        go_wp2_with fail
        refine HV.out.mono ?_; rintro e w3 ⟨rfl, hb3⟩
        have HB3 := Lib.hid (below_step HB.out hb3); clear hb3
        go_wp2_with fail
        go_roundw
        case rel => exact ⟨p + 1, by omega, by go_num, fun j hj => (by
          rcases Nat.lt_or_ge j p with h1 | h1
          · exact HE.out j h1
          · obtain rfl : j = p := by omega
            exact HR.out), HB3.out⟩
        case measure => simp [intOf]; omega
    · obtain rfl : p = k := by omega
      have HR : Hid (Ma.all m p f n = true) := Lib.hid ((Ma.all_iff m p f n).2 HE.out)
      have i1 : ¬ (p : Int) < (p : Int) := by omega
      go_wp2_with fail
      go_ret
      exact ⟨by rw [HR.out]; rfl, HB.out⟩
set_option maxRecDepth 100000 in
set_option maxHeartbeats 1000000 in
theorem rRow_any (A B : Option Addr) (n c d : Nat) (hn : n ≤ 1000000) (s : Nat → Int) (w : World) (hA : Row 1 (fun j _ => .int .i64 (s j)) w A n) (hB : Row 1 (fun j _ => .int .i64 (s j)) w B n) :
    Calls Try.prog 19 #[.slice A n c, .slice B n d] w fun e w' => e = .returned (.bool true) ∧ Below w.heap.size w w' := by
  have HA := Lib.hid hA; have HB := Lib.hid hB; clear hA hB
  go_enter Try.func19, Try.ntmps19
  go_wp2_with fail
  go_loopw [5] (fun i wr => ∃ k : Nat, k ≤ n ∧ i = .int .i64 k ∧ Below w.heap.size w wr) (fun i _ => n - (intOf i).toNat)
  case atStart => exact ⟨0, by omega, rfl, Below.refl _ _⟩
  case round =>
    obtain ⟨k, hk, rfl, hb⟩ := hrel
    have HBL := Lib.hid hb; clear hb
    by_cases hlt : k < n
    · obtain ⟨ad, rfl, c0, -⟩ := HA.out.at_ HBL.out hlt
      obtain ⟨bd, rfl, e0, -⟩ := HB.out.at_ HBL.out hlt
      have x0 : wr.cell? (ad.add k) = some (.int .i64 (s k)) := by have := c0 (by omega); rw [Nat.mul_one] at this; exact this
      have y0 : wr.cell? (bd.add k) = some (.int .i64 (s k)) := by have := e0 (by omega); rw [Nat.mul_one] at this; exact this
      have i1 : (k : Int) < (n : Int) := by omega
      have i0 : (0 : Int) ≤ (k : Int) := by omega
      have i2 : (s k != s k) = false := by simp
      clear c0 e0
      go_wp2_with fail
      go_quiet (fail)
      go_wp2_with fail
      go_roundw
      case rel => exact ⟨k + 1, by omega, by go_num, below_drewN HBL.out _⟩
      case measure => simp [intOf]; omega
    · obtain rfl : k = n := by omega
      have i1 : ¬ (k : Int) < (k : Int) := by omega
      go_wp2_with fail
      go_ret
      exact ⟨rfl, HBL.out⟩
set_option maxRecDepth 100000 in
set_option maxHeartbeats 1000000 in
theorem rSelect_any (B : Option Addr) (k cm : Nat) (hk : k ≤ 1000000) (m : Nat → Mat) (C : Option Addr) (n c : Nat) (hn : n ≤ 1000000) (A : Nat → Option Addr) (nn cc : Nat → Nat) (f : Nat → Nat → Lab) (hnn : ∀ i, i < n → nn i ≤ 1000000)
    (w : World) (hB : Row 3 (mx m) w B k) (hC : Row 1 (lx A nn cc) w C n) (hA : ∀ i, i < n → LabRow w (A i) (nn i) (f i)) :
    Calls Try.prog 21 #[.slice B k cm, .slice C n c] w (Picks 3 1 (fun i => [.int .i64 (i : Int)]) (Ma.sel (fun i => Ma.all m k (f i) (nn i)) n) w) := by
  obtain ⟨i0, hi0, hz0, hz1, hz2⟩ := info_parts info_int
  have hall := fun W (hW : Below w.heap.size w W) i (hi : i < n) => rAll_any B k cm hk m (A i) (nn i) (cc i) (hnn i hi) (f i) W (hB.later hW) ((hA i hi).later hW)
  have RC := Lib.hid hC
  generalize hbd : (fun i => Ma.all m k (f i) (nn i)) = b at *
  have hbi : ∀ i, Ma.all m k (f i) (nn i) = b i := fun i => by rw [← hbd]
  simp only [hbi] at hall
  have HALL := Lib.hid hall
  clear hall hbi hbd hB hC hA
  go_enter Try.func21, Try.ntmps21
  go_wp2_with fail
  go_loopw [5, 6] (fun v i wr => ∃ p : Nat, p ≤ n ∧ i = .int .i64 p ∧ wr.ownsRow w.heap.size 3 1 v (Ma.sel b p).length ((Ma.sel b p).flatMap fun i : Nat => [Value.int .i64 (i : Int)]) ∧ Below w.heap.size w wr) (fun _ i _ => n - (intOf i).toNat)
  case atStart => exact ⟨0, by omega, rfl, World.ownsRow_nil _ _ _ _, Below.refl _ _⟩
  case round =>
    obtain ⟨p, hp, rfl, hown, hb⟩ := hrel
    have HB := Lib.hid hb; have HO := Lib.hid hown; clear hb
    by_cases hlt : p < n
    · obtain ⟨ad, rfl, c0, -⟩ := RC.out.at_ HB.out hlt
      have e0 : wr.cell? (ad.add p) = some (.slice (A p) (nn p) (cc p)) := by have := c0 (by omega); rw [Nat.mul_one] at this; exact this
      have hal := HALL.out wr HB.out p hlt
      have j1 : (p : Int) < (n : Int) := by omega
      have j0 : (0 : Int) ≤ (p : Int) := by omega
      have hsl := Ma.sel_length b p
      have hst := fun h => Ma.sel_yes (b := b) (p := p) h
      have hno := fun h => Ma.sel_no (b := b) (p := p) h
      have hb1 : (Ma.sel b p).length + 1 ≤ maxLen := by unfold maxLen; omega
      have hb2 : ((Ma.sel b p).length + 1) * 8 ≤ 140737488355328 := by omega
      have HB1 := Lib.hid hb1; have HB2 := Lib.hid hb2
      generalize A p = qa at *
      generalize nn p = qn at *
      generalize cc p = qc at *
      clear c0 hb1 hb2 hsl hown
      cases hbp : b p
      · rw [hbp] at hal
        have HA := Lib.hid hal
        have hnk := hno hbp
        have HNK := Lib.hid hnk
        clear hal hst hno hnk hbp
        go_wp2_with fail
        refine HA.out.mono ?_; rintro e w3 ⟨rfl, hb3⟩
        have HB3 := Lib.hid (below_step HB.out hb3); have HO3 := Lib.hid (own_later HO.out hb3); clear hb3
        go_wp2_with fail
        go_roundw
        case rel => exact ⟨p + 1, by omega, by go_num, by rw [HNK.out]; exact HO3.out, HB3.out⟩
        case measure => simp [intOf]; omega
      · rw [hbp] at hal
        have HA := Lib.hid hal
        have hyk := hst hbp
        have HYK := Lib.hid hyk
        clear hal hst hno hyk hbp
        go_wp2_with fail
        refine HA.out.mono ?_; rintro e w3 ⟨rfl, hb3⟩
        have HB3 := Lib.hid (below_step HB.out hb3); have HO3 := Lib.hid (own_later HO.out hb3); clear hb3
        have hb4 : w.heap.size ≤ (w3.alloc (.cells #[.int .i64 (p : Int)] 3)).heap.size := by have := HB3.out.size; simp; omega
        have HB4 := Lib.hid hb4; clear hb4 e0
        go_wp2_with (at_builtin; go_must (refine wpList_append_own _ rfl _ _ 35 rfl w.heap.size 3 i0 (.int .i64 0) 1 8 Try.underlying35 hi0 hz0 hz1 hz2 rfl (by decide) _ _ _ rfl (HO3.out.alloc _) ⟨w3.heap.size, 0, none⟩ 1 1 [.int .i64 (p : Int)] rfl rfl (cells_new _ _ _) (by simp [Value.oneCell']) HB1.out HB2.out HB4.out ?_); intro v5 w5 hown5 hgr5 _; have HOWN5 := Lib.hid hown5; have HG5 := Lib.hid hgr5; clear hown5 hgr5)
        go_roundw
        case rel =>
          refine ⟨p + 1, by omega, by go_num, ?_, (HB3.out.alloc HB3.out.size _).grown HG5.out (by have := HB3.out.size; simp; omega) (fun b hv => (HO.out.lt b hv).1)⟩
          rw [HYK.out, List.length_append, List.flatMap_append]
          exact HOWN5.out
        case measure => simp [intOf]; omega
    · obtain rfl : p = n := by omega
      have j1 : ¬ (p : Int) < (p : Int) := by omega
      clear hown
      go_wp2_with fail
      go_ret
      exact ⟨_, rfl, HO.out, HB.out⟩
end Go.Proofs.Ytcdlkiephdghlaa
