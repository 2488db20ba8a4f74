/-
  DiskWhole: the walk.
-/
import Derived.Test.YtgpmomjdjakklaaDkR
import Derived.BigQuiet
namespace Go.Proofs.Ytgpmomjdjakklaa
open Go.RowKit Go.Maps
theorem addr_zero (a : Addr) : a.add 0 = a := by
  rcases a with ⟨b, o, x⟩
  simp [Addr.add]
namespace Sf
theorem bd_fst {r : St × Int} {k : St → St × Int} (h : (bd r k).2 = 0) : r.2 = 0 := by
  by_cases e : r.2 = 0
  · exact e
  · rw [bd_no e] at h; exact h
theorem save_empty (S : St) (n b : ByteArray) (y : Nat) (h : isName n = false) : (S.save n b y).2 ≠ 0 := fun h0 => by
  have h6 : (sv6 S (tmp n) y b n).2 = 0 := h0
  have h5 : (sv5 S (tmp n) y b n).2 = 0 := bd_fst h6
  have h4 : (sv4 S (tmp n) y b).2 = 0 := bd_fst h5
  rw [show sv5 S (tmp n) y b n = (sv4 S (tmp n) y b).1.rename (tmp n) n from bd_ok h4] at h5
  unfold St.rename at h5
  split at h5
  · cases h5
  · split at h5
    · cases h5
    · cases h5
theorem no_name {n : ByteArray} (h : n.size = 0) : isName n = false := by
  unfold isName
  rw [h]
  rfl
/-- names of which none is another's, or another's that is not done -/
def Apart (f : Nat → ByteArray) (i : Nat) : Prop := ∀ k q, k < i → q < i → k ≠ q → f k ≠ f q ∧ f k ≠ tmp (f q)
theorem gT_at {f b : Nat → ByteArray} : ∀ (i : Nat), Apart f i → ∀ j, j < i → gT f b i (f j) = some (b j)
  | 0, _, j, hj => absurd hj (Nat.not_lt_zero j)
  | i + 1, ha, j, hj => by
    show putG (gT f b i) (f i) (b i) (f j) = some (b j)
    unfold putG
    by_cases e : j = i
    · rw [if_pos (by rw [e]), e]
    · obtain ⟨h1, h2⟩ := ha j i hj (Nat.lt_succ_self i) e
      rw [if_neg h1, if_neg h2]
      exact gT_at i (fun k q hk hq => ha k q (by omega) (by omega)) j (by omega)
theorem gT_tmp {f b : Nat → ByteArray} {i j : Nat} (ha : Apart f i) (hj : j < i) : gT f b i (tmp (f j)) = none := by
  cases h : gT f b i (tmp (f j)) with
  | none => rfl
  | some v =>
    obtain ⟨k, hk, e⟩ := gT_dom f b i _ v h
    by_cases e2 : k = j
    · rw [e2] at e; exact absurd e.symm (tmp_ne _)
    · exact absurd e.symm (ha k j hk hj e2).2
end Sf
/-- a file of those that there are is saved, and the machine may die; then it crashes -/
theorem save_crash {W : World} {base fb : Nat} {f b : Nat → ByteArray} {i : Nat} {S : Sf.St} {wr : World} (h : SavedTo W base fb f b 5000 i S wr) (hi0 : 0 < i) (hi : i ≤ 5) (ha : Sf.Apart f i) (hn0 : 0 < (f 0).size) (hn : (f 0).size ≤ 36) {bb : ByteArray} (hb : bb.size ≤ 300) (fu : Int) {y : Nat} (hy : (Sf.sv1 { S with fuse := Sf.fuseOf fu } (tmp (f 0))).2 = 0 → ¬ Sf.live (Sf.sv1 { S with fuse := Sf.fuseOf fu } (tmp (f 0))).1.synced (Sf.sv1 { S with fuse := Sf.fuseOf fu } (tmp (f 0))).1.chg y) (kp : Sf.Keep)
    (hks : Sf.KS ((({ S with fuse := Sf.fuseOf fu } : Sf.St).save (f 0) bb y).1.now kp)) :
    ∃ (T : Sf.St) (er : Int) (g : ByteArray → Option ByteArray), ({ S with fuse := Sf.fuseOf fu } : Sf.St).save (f 0) bb y = (T, er) ∧ (er = 0 ∧ T.dead = false ∨ er = 13 ∧ T.dead = true) ∧ Sf.Has (T.crash kp) g ∧ Sf.StOk 300 (7 * i + 7) (T.crash kp) ∧ (T.crash kp).room = 5000 ∧
      (∀ s, s ≠ f 0 → s ≠ tmp (f 0) → g s = Sf.gT f b i s) ∧ (g (f 0) = some bb ∨ T.dead = true ∧ g (f 0) = some (b 0)) := by
  obtain ⟨S1, hS1⟩ : ∃ S1, S1 = ({ S with fuse := Sf.fuseOf fu } : Sf.St) := ⟨_, rfl⟩
  have hH : Sf.Has S1 (Sf.gT f b i) := by rw [hS1]; exact ⟨h.has.dead, h.has.chg, h.has.syn, h.has.at_, h.has.wh⟩
  have hok : Sf.StOk 300 (7 * i) S1 := by rw [hS1]; exact h.ok.setFuse fu
  have hkS : Sf.KS S1.names := by rw [hS1]; exact h.runs.keys
  have hroom : S1.room = 5000 := by rw [hS1]; exact h.room
  have hz : Go.Maps.size S1.names ≤ i := by rw [hS1]; exact h.size
  rw [← hS1] at hy hks ⊢
  clear hS1
  have hnt : Sf.look S1.names (tmp (f 0)) = none := Sf.cont_none ((hH.at_ _).trans (Sf.gT_tmp ha hi0))
  obtain ⟨S2, h1⟩ := Sf.sv1_at hok hkS hH.dead (tmp (f 0)) (.inl hnt)
  have hfr := Sf.fresh_of hok h1 hy
  have ht := Sf.total_le hok
  have ht2 : S1.total ≤ i * 300 := Nat.le_trans ht (Nat.mul_le_mul_right _ hz)
  have hsok := hok.save (f 0) bb hb hy
  have hall := Sf.save_all (b := bb) h1 (Sf.name_of (by omega) hn0) hn y hfr (by omega) (by rw [hroom]; omega)
  have hE : S2 = S1 := h1.same hnt
  subst hE
  obtain ⟨SV, hSV⟩ : ∃ SV, SV = S2.save (f 0) bb y := ⟨_, rfl⟩
  rw [← hSV] at hall hsok hks ⊢
  clear hSV
  obtain ⟨T, er⟩ := SV
  simp only [] at hall hsok hks
  have hcok := hsok.crash kp
  rcases hall with ⟨e0, hs⟩ | ⟨e13, hd⟩
  · have hT : Sf.Has T (Sf.putG (Sf.gT f b i) (f 0) bb) := hs.has h1 hH hfr
    refine ⟨T, er, _, rfl, .inl ⟨e0, hs.dead⟩, hT.crash kp, hcok, hs.room.trans hroom, fun s a1 a2 => ?_, .inl ?_⟩
    · unfold Sf.putG
      rw [if_neg a1, if_neg a2]
    · unfold Sf.putG
      exact if_pos rfl
  · obtain ⟨b1, b2⟩ := Sf.died_back hH hok.nice hfr hd kp
    refine ⟨T, er, Sf.cont (T.crash kp), rfl, .inr ⟨e13, hd.dead⟩, Sf.crash_has T kp hks, hcok, hd.room.trans hroom, b1, ?_⟩
    rcases b2 with b3 | b3
    · exact .inr ⟨hd.dead, by rw [b3]; exact Sf.gT_at i ha 0 hi0⟩
    · exact .inl b3
/-- one more is saved, or it has no name -/
theorem SavedTo.save2 {W : World} {base fb : Nat} {f b : Nat → ByteArray} {room : Int} {i : Nat} {S : Sf.St} {wr : World} (h : SavedTo W base fb f b room i S wr) (hi : i ≤ 20) (hn : (f i).size ≤ 36) (hb : (b i).size ≤ 300) (hroom : ((300 * (i + 1) : Nat) : Int) ≤ room) :
    Calls Try.prog 10 #[.pointer (some ⟨fb, 0, none⟩), .string (f i), .string (b i)] wr fun e w' => ∃ er : Int, e = .returned (.int .i64 er) ∧ (0 < (f i).size → er = 0 ∧ ∃ S2, SavedTo W base fb f b room (i + 1) S2 w') ∧ ((f i).size = 0 → er ≠ 0) ∧ Below W.heap.size W w' := by
  by_cases h0 : 0 < (f i).size
  · exact (h.save hi h0 hn hb hroom).mono fun e w' ⟨S2, he, hs, _⟩ => ⟨0, he, fun _ => ⟨rfl, S2, hs⟩, fun h => by omega, hs.runs.bel⟩
  · refine (Save_any h.runs (by omega) (by omega) (f i) (by omega) (b i) hb).mono ?_
    rintro e w' ⟨y, -, rfl, hr, -⟩
    exact ⟨_, rfl, fun h => absurd h h0, fun h => Sf.save_empty S _ _ y (Sf.no_name h), hr.bel⟩
set_option maxRecDepth 100000 in
set_option maxHeartbeats 8000000 in
theorem diskWhole_walk0 (W : World) (A : Option Addr) (n c : Nat) (f : Nat → ByteArray) (hA : Row 1 (nx1 f) W A n) (A2 : Option Addr) (n2 c2 : Nat) (b : Nat → ByteArray) (hA2 : Row 1 (nx1 b) W A2 n2) (bb : ByteArray) (fu : Int) {A3 : Option Addr} {c3 : Nat} {kp : Sf.Keep} (hk : KeepIn W A3 c3 kp) :
    Calls Try.prog 3 #[.slice A n c, .slice A2 n2 c2, .string bb, .int .i64 fu, .slice A3 kp.n c3] W fun e w' => e = .returned (.bool true) ∧ Below W.heap.size W w' := by
  have HK := Lib.hid hk; have HA := Lib.hid hA; have HA2 := Lib.hid hA2
  clear hk hA hA2
  go_enter Try.func3, Try.ntmps3
  go_wp2_with fail
  refine (works_any W).mono ?_; rintro e w1 ⟨rfl, hb1⟩
  have HB1 := Lib.hid hb1; clear hb1
  go_wp2_with fail
  refine (runs_new HB1.out 5000 (by decide)).mono ?_; rintro e w2 ⟨fb, rfl, hr, hb2⟩
  have R2 := Lib.hid hr; clear hr hb2
  obtain ⟨base, hbase⟩ : ∃ base, base = w1.heap.size := ⟨_, rfl⟩
  rw [← hbase] at R2
  clear hbase
  by_cases hn5 : 5 < n
  · have d1 : decide ((5 : Int) < (n : Int)) = true := decide_eq_true (by omega)
    have d2 : decide (5 < n) = true := decide_eq_true hn5
    go_wp2_with fail
    go_ret
    exact ⟨rfl, R2.out.bel⟩
  have d1 : decide ((5 : Int) < (n : Int)) = false := decide_eq_false (by omega)
  have d2 : decide (5 < n) = false := decide_eq_false hn5
  by_cases hne : ¬ n2 = n
  · have d3 : (((n2 : Nat) : Int) != ((n : Nat) : Int)) = true := by simp; omega
    have d4 : decide (((n2 : Nat) : Int) = ((n : Nat) : Int)) = false := decide_eq_false (by omega)
    go_wp2_with fail
    go_ret
    exact ⟨rfl, R2.out.bel⟩
  obtain rfl : n2 = n := Decidable.not_not.1 hne
  clear hne
  have d3 : (((n2 : Nat) : Int) != ((n2 : Nat) : Int)) = false := by simp
  by_cases hn0 : n2 = 0
  · have d5 : (((n2 : Nat) : Int) == 0) = true := by simp [hn0]
    have d6 : decide (((n2 : Nat) : Int) = 0) = true := decide_eq_true (by omega)
    clear hn0
    go_wp2_with fail
    go_ret
    exact ⟨rfl, R2.out.bel⟩
  have d5 : (((n2 : Nat) : Int) == 0) = false := by simpa using hn0
  have d6 : decide (((n2 : Nat) : Int) = 0) = false := decide_eq_false (by omega)
  by_cases hzb : 300 < bb.size
  · have d7 : decide ((300 : Int) < (bb.size : Int)) = true := decide_eq_true (by omega)
    have d8 : decide (300 < bb.size) = true := decide_eq_true hzb
    go_wp2_with fail
    go_ret
    exact ⟨rfl, R2.out.bel⟩
  have d7 : decide ((300 : Int) < (bb.size : Int)) = false := decide_eq_false (by omega)
  have d8 : decide (300 < bb.size) = false := decide_eq_false hzb
  by_cases hk20 : 20 < kp.n
  · have d9 : decide ((20 : Int) < (kp.n : Int)) = true := decide_eq_true (by omega)
    have d10 : decide (20 < kp.n) = true := decide_eq_true hk20
    go_wp2_with fail
    go_ret
    exact ⟨rfl, R2.out.bel⟩
  have d9 : decide ((20 : Int) < (kp.n : Int)) = false := decide_eq_false (by omega)
  have d10 : decide (20 < kp.n) = false := decide_eq_false hk20
  go_wp2_with fail
  clear d1 d2 d3 d5 d6 d7 d8 d9 d10
  have HS0 := Lib.hid (SavedTo.zero f b (show (0 : Int) ≤ 5000 by decide) R2.out)
  have HN : Hid (0 < n2 ∧ n2 ≤ 5 ∧ bb.size ≤ 300) := Lib.hid ⟨by omega, by omega, by omega⟩
  clear R2 HB1 hn0 hzb hk20
  go_loopw [13, 14] (fun iv _ wr => ∃ (i : Nat) (S : Sf.St), i ≤ n2 ∧ iv = .int .i64 (i : Int) ∧ SavedTo W base fb f b 5000 i S wr ∧ Sf.Apart f i ∧ (∀ k, k < i → 0 < (f k).size ∧ (f k).size ≤ 36)) (fun iv _ _ => n2 - (intOf iv).toNat)
  case atStart => exact ⟨0, _, Nat.zero_le _, rfl, HS0.out, fun k q hk => absurd hk (Nat.not_lt_zero k), fun k hk => absurd hk (Nat.not_lt_zero k)⟩
  case round =>
    obtain ⟨i, S, hin, rfl, hs, hap, hg⟩ := hrel
    have HS := Lib.hid hs; have HAP := Lib.hid hap; have HG := Lib.hid hg
    clear hs hap hg HS0
    have i0 : (0 : Int) ≤ (i : Int) := Int.natCast_nonneg _
    by_cases hlt : i < n2
    · have i1 : (i : Int) < (n2 : Int) := by omega
      have d1 : decide ((i : Int) < (n2 : Int)) = true := decide_eq_true i1
      obtain ⟨ad, hAd, x0, -⟩ := HA.out.at_ HS.out.runs.bel hlt
      subst hAd
      have x0 := x0 (by omega)
      obtain ⟨ad2, hAd, y0, -⟩ := HA2.out.at_ HS.out.runs.bel hlt
      subst hAd
      have y0 := y0 (by omega)
      rw [Nat.mul_one, show nx1 f i 0 = .string (f i) from rfl] at x0
      rw [Nat.mul_one, show nx1 b i 0 = .string (b i) from rfl] at y0
      have HI1 : Hid (i + 1 ≤ n2) := Lib.hid hlt
      have HLT := Lib.hid hlt
      clear hin
      by_cases hz1 : 36 < (f i).size
      · have e1 : decide ((36 : Int) < ((f i).size : Int)) = true := decide_eq_true (by omega)
        have e2 : decide (36 < (f i).size) = true := decide_eq_true hz1
        go_wp2_with fail
        go_ret
        exact ⟨rfl, HS.out.runs.bel⟩
      have e1 : decide ((36 : Int) < ((f i).size : Int)) = false := decide_eq_false (by omega)
      have e2 : decide (36 < (f i).size) = false := decide_eq_false hz1
      by_cases hz2 : 300 < (b i).size
      · have e3 : decide ((300 : Int) < ((b i).size : Int)) = true := decide_eq_true (by omega)
        have e4 : decide (300 < (b i).size) = true := decide_eq_true hz2
        go_wp2_with fail
        go_ret
        exact ⟨rfl, HS.out.runs.bel⟩
      have e3 : decide ((300 : Int) < ((b i).size : Int)) = false := decide_eq_false (by omega)
      have e4 : decide (300 < (b i).size) = false := decide_eq_false hz2
      have HZ : Hid ((f i).size ≤ 36 ∧ (b i).size ≤ 300) := Lib.hid ⟨by omega, by omega⟩
      clear hz1 hz2
      go_wp2_with fail
      clear e1 e2 e3 e4
      go_loopw [14] (fun kv U => ∃ k : Nat, k ≤ i ∧ kv = .int .i64 (k : Int) ∧ (∀ q, q < k → f q ≠ f i ∧ f q ≠ tmp (f i) ∧ f i ≠ tmp (f q)) ∧ Below wr.heap.size wr U) (fun kv _ => i - (intOf kv).toNat)
      case atStart => exact ⟨0, Nat.zero_le _, rfl, fun q hq => absurd hq (Nat.not_lt_zero q), Below.refl _ _⟩
      case round =>
        rename World => U
        obtain ⟨k, hki, rfl, hq, hbu⟩ := hrel
        have HQ := Lib.hid hq; have HBU := Lib.hid hbu
        clear hq hbu
        have k0 : (0 : Int) ≤ (k : Int) := Int.natCast_nonneg _
        by_cases hkl : k < i
        · have k1 : (k : Int) < (i : Int) := by omega
          have d2 : decide ((k : Int) < (i : Int)) = true := decide_eq_true k1
          have HWU := Lib.hid (below_step HS.out.runs.bel HBU.out)
          obtain ⟨ad9, hAd, z0, -⟩ := HA.out.at_ HWU.out (show k < n2 by have := HLT.out; omega)
          cases hAd
          have z0 := z0 (by omega)
          rw [Nat.mul_one, show nx1 f k 0 = .string (f k) from rfl] at z0
          have x1 := cell_keep x0 HBU.out
          have k2 : (k : Int) < (n2 : Int) := by omega
          have HKL := Lib.hid hkl
          have HFK := Lib.hid (HG.out k hkl)
          have HBD : Hid (∀ z, Below wr.heap.size wr (U.drewN z)) := Lib.hid (fun z => below_drewN HBU.out z)
          have HWD : Hid (∀ z, Below W.heap.size W (U.drewN z)) := Lib.hid (fun z => below_drewN HWU.out z)
          have z1 : ¬ 9223372036854775807 < (⟨#[116, 109, 112, 45]⟩ : ByteArray).size + (f i).size := by
            have := HZ.out.1
            show ¬ 9223372036854775807 < 4 + (f i).size
            omega
          have z2 : ¬ 9223372036854775807 < 4 + (f i).size := by have := HZ.out.1; omega
          have z3 : ¬ 9223372036854775807 < (⟨#[116, 109, 112, 45]⟩ : ByteArray).size + (f k).size := by
            have := HFK.out.2
            show ¬ 9223372036854775807 < 4 + (f k).size
            omega
          have z4 : ¬ 9223372036854775807 < 4 + (f k).size := by have := HFK.out.2; omega
          have t1 : (⟨#[116, 109, 112, 45]⟩ : ByteArray) ++ f i = tmp (f i) := rfl
          have t2 : (⟨#[116, 109, 112, 45]⟩ : ByteArray) ++ f k = tmp (f k) := rfl
          by_cases q1 : f k = f i
          · have b0 : ((f k).toList == (f i).toList) = true := by rw [str_beq]; exact decide_eq_true q1
            clear q1
            go_wp2_with fail
            go_quiet (fail)
            go_wp2_with fail
            go_ret
            exact ⟨rfl, HWD.out _⟩
          have b0 : ((f k).toList == (f i).toList) = false := by rw [str_beq]; exact decide_eq_false q1
          by_cases q2 : f k = tmp (f i)
          · have b1 : ((f k).toList == (tmp (f i)).toList) = true := by rw [str_beq]; exact decide_eq_true q2
            clear q1 q2
            go_wp2_with fail
            go_quiet (fail)
            go_wp2_with fail
            go_ret
            exact ⟨rfl, HWD.out _⟩
          have b1 : ((f k).toList == (tmp (f i)).toList) = false := by rw [str_beq]; exact decide_eq_false q2
          by_cases q3 : tmp (f k) = f i
          · have b2 : ((tmp (f k)).toList == (f i).toList) = true := by rw [str_beq]; exact decide_eq_true q3
            clear q1 q2 q3
            go_wp2_with fail
            go_quiet (fail)
            go_wp2_with fail
            go_ret
            exact ⟨rfl, HWD.out _⟩
          have b2 : ((tmp (f k)).toList == (f i).toList) = false := by rw [str_beq]; exact decide_eq_false q3
          have HQ1 : Hid (∀ q, q < k + 1 → f q ≠ f i ∧ f q ≠ tmp (f i) ∧ f i ≠ tmp (f q)) := Lib.hid (fun q hq => by
            by_cases e : q = k
            · rw [e]; exact ⟨q1, q2, fun e2 => q3 e2.symm⟩
            · exact HQ.out q (by omega))
          clear q1 q2 q3
          go_wp2_with fail
          go_quiet (fail)
          go_wp2_with fail
          go_roundw
          case rel => exact ⟨k + 1, HKL.out, by go_num, HQ1.out, HBD.out _⟩
          case measure => simp [intOf]; omega
        · have d2 : decide ((k : Int) < (i : Int)) = false := decide_eq_false (by omega)
          obtain rfl : k = i := by omega
          clear hki hkl k0
          have HAP1 : Hid (Sf.Apart f (k + 1)) := Lib.hid (fun a q ha hq hne => by
            by_cases e1 : a = k
            · rw [e1] at hne ⊢
              obtain ⟨g1, g2, g3⟩ := HQ.out q (by omega)
              exact ⟨fun e => g1 e.symm, g3⟩
            · by_cases e2 : q = k
              · rw [e2]
                obtain ⟨g1, g2, g3⟩ := HQ.out a (by omega)
                exact ⟨g1, g2⟩
              · exact HAP.out a q (by omega) (by omega) hne)
          have HSQ := Lib.hid (HS.out.far HBU.out)
          have x0 := cell_keep x0 HBU.out
          have y0 := cell_keep y0 HBU.out
          clear HAP HQ HBU HS
          go_upto_region 17 with (fail)
          generalize U = wq at *
          refine plain_T (fun U => Below wq.heap.size wq U) [9, 10] (by kernel_rfl) ?_
          have HD : Hid (Below wq.heap.size wq wq.drew) := Lib.hid (Below.refl _ _).drew
          generalize wq.drew = wd at HD ⊢
          have HSV := Lib.hid (fun U (hU : Below wq.heap.size wq U) => SavedTo.save2 (HSQ.out.far hU) (by have := HN.out.2.1; have := HLT.out; omega) HZ.out.1 HZ.out.2 (by have := HN.out.2.1; have := HLT.out; omega))
          have HX : Hid (∀ U, Below wq.heap.size wq U → U.cell? (ad.add k) = some (.string (f k)) ∧ U.cell? (ad2.add k) = some (.string (b k))) := Lib.hid (fun U hU => ⟨cell_keep x0 hU, cell_keep y0 hU⟩)
          refine wpAnyT_pick (S := (fun U => Below wq.heap.size wq U)) (by kernel_rfl) Only.panic Only.keepsIn (w := wd) HD.out [0, 1, 2, 3, 4, 5, 6, 7, 8] 2 _ _ (by kernel_rfl) ?_
          refine PickT.value (d := some 123) (.pointer (some ⟨fb, 0, none⟩)) rfl rfl (by kernel_rfl) (fun U hU => (by go_simp)) ?_
          refine PickT.value (d := some 124) (.slice (some ad) n2 c) rfl rfl (by kernel_rfl) (fun U hU => (by go_simp)) ?_
          refine PickT.value (d := some 125) (.int .i64 (k : Int)) rfl rfl (by kernel_rfl) (fun U hU => (by go_simp)) ?_
          refine PickT.value (d := some 126) (.pointer (some (ad.add k))) rfl rfl (by kernel_rfl) (fun U hU => (by go_simp)) ?_
          refine PickT.value (d := some 127) (.string (f k)) rfl rfl (by kernel_rfl) (fun U hU => (by obtain ⟨h0, h1⟩ := HX.out U hU; go_simp)) ?_
          refine PickT.value (d := some 128) (.slice (some ad2) n2 c2) rfl rfl (by kernel_rfl) (fun U hU => (by go_simp)) ?_
          refine PickT.value (d := some 129) (.int .i64 (k : Int)) rfl rfl (by kernel_rfl) (fun U hU => (by go_simp)) ?_
          refine PickT.value (d := some 130) (.pointer (some (ad2.add k))) rfl rfl (by kernel_rfl) (fun U hU => (by go_simp)) ?_
          refine PickT.value (d := some 131) (.string (b k)) rfl rfl (by kernel_rfl) (fun U hU => (by obtain ⟨h0, h1⟩ := HX.out U hU; go_simp)) ?_
          simp only [PickT, Act.put, List.setIfInBounds_toArray, List.set_cons_zero, List.set_cons_succ]
          refine wpAnyT_turn (fun _ => True) [] (by kernel_rfl) ?_
          refine wpAnyT_one (i := 9) (by kernel_rfl) rfl (by kernel_rfl) ?_
          intro K hK
          unfold Oper.wp
          go_simp
          refine (HSV.out _ HD.out).mono ?_; rintro e w9 ⟨er, rfl, hs1, hs2, hb9⟩
          have HS1 := Lib.hid hs1; have HS2 := Lib.hid hs2; have HB9 := Lib.hid hb9
          clear hs1 hs2 hb9 HSV HX
          refine hK _ _ (fun _ => True.intro) ?_
          clear hK K
          by_cases h0 : (f k).size = 0
          · have hne := HS2.out h0
            have q0 : (er != 0) = true := by simpa using hne
            have q1 : decide (er = 0) = false := decide_eq_false hne
            have q2 : (er == 0) = false := by simpa using hne
            refine wpAnyT_pick (S := (fun _ => True)) (by kernel_rfl) Only.panic Only.keepsIn (w := w9) True.intro [10] 0 _ _ (by kernel_rfl) ?_
            refine PickT.value (d := some 133) (.bool true) rfl rfl (by kernel_rfl) (fun U hU => (by go_simp)) ?_
            simp only [PickT, Act.put, List.setIfInBounds_toArray, List.set_cons_zero, List.set_cons_succ]
            refine wpAnyT_done (by kernel_rfl) ?_ _
            refine only_mk ?_
            obtain ⟨ad9, hAd, z0, -⟩ := HA.out.at_ HB9.out HLT.out
            cases hAd
            have z0 := z0 (by omega)
            rw [Nat.mul_one, show nx1 f k 0 = .string (f k) from rfl] at z0
            have e5 : (f k).toList.isEmpty = true := by rw [isEmpty_eq]; exact decide_eq_true h0
            clear h0 hne
            go_wp2_with fail
            go_ret
            exact ⟨rfl, HB9.out⟩
          · obtain ⟨rfl, S2, hs2⟩ := HS1.out (by omega)
            have HSS := Lib.hid hs2
            have HGG : Hid (∀ q, q < k + 1 → 0 < (f q).size ∧ (f q).size ≤ 36) := Lib.hid (fun q hq => by
              by_cases e : q = k
              · rw [e]; exact ⟨by omega, HZ.out.1⟩
              · exact HG.out q (by omega))
            clear hs2
            refine wpAnyT_pick (S := (fun _ => True)) (by kernel_rfl) Only.panic Only.keepsIn (w := w9) True.intro [10] 0 _ _ (by kernel_rfl) ?_
            refine PickT.value (d := some 133) (.bool false) rfl rfl (by kernel_rfl) (fun U hU => (by go_simp)) ?_
            simp only [PickT, Act.put, List.setIfInBounds_toArray, List.set_cons_zero, List.set_cons_succ]
            refine wpAnyT_done (by kernel_rfl) ?_ _
            refine only_mk ?_
            clear h0 HS1 HS2
            go_wp2_with fail
            go_roundw
            case rel => exact ⟨k + 1, S2, HI1.out, by go_num, HSS.out, HAP1.out, HGG.out⟩
            case measure => simp [intOf]; omega
    · have d1 : decide ((i : Int) < (n2 : Int)) = false := decide_eq_false (by omega)
      obtain rfl : i = n2 := by omega
      clear hlt hin i0
      have HI : Hid (0 < i ∧ i ≤ 5 ∧ bb.size ≤ 300) := HN
      obtain ⟨hf0, hf1⟩ := HG.out 0 HN.out.1
      have HF0 := Lib.hid (And.intro hf0 hf1)
      have HFS : Hid (∀ k, k < i → (f k).size ≤ maxLen) := Lib.hid (fun k hk => Nat.le_trans (HG.out k hk).2 (by decide))
      clear hf0 hf1
      go_wp2_with fail
      refine (HS.out.runs.fuse fu).mono ?_; rintro e w3 ⟨rfl, hr, -⟩
      have R3 := Lib.hid (hr.mono (B2 := 1500) (N2 := 35) (by have := HI.out.2.1; omega) (by have := HI.out.2.1; omega))
      clear hr d1
      obtain ⟨ad, hAd, x0, -⟩ := HA.out.at_ R3.out.bel HI.out.1
      subst hAd
      have HX : Hid (∀ U, Below W.heap.size W U → U.cell? ad = some (.string (f 0))) := Lib.hid (fun U hU => by
        obtain ⟨ad9, hAd, z0, -⟩ := HA.out.at_ hU HI.out.1
        cases hAd
        have z0 := z0 (by omega)
        rw [Nat.zero_mul, addr_zero] at z0
        exact z0)
      clear x0
      have x0 := HX.out w3 R3.out.bel
      have i1 : (0 : Int) < (i : Int) := by have := HI.out.1; omega
      go_wp2_with fail
      refine (Save_any R3.out (by decide) (by decide) (f 0) (by have := HF0.out.2; omega) bb HI.out.2.2).mono ?_; rintro e w4 ⟨y, hy, rfl, hr, -⟩
      have R4 := Lib.hid hr; have HY := Lib.hid hy
      obtain ⟨T, hT⟩ : ∃ T, T = (({ S with fuse := Sf.fuseOf fu } : Sf.St).save (f 0) bb y).1 := ⟨_, rfl⟩
      obtain ⟨er, her⟩ : ∃ er, er = (({ S with fuse := Sf.fuseOf fu } : Sf.St).save (f 0) bb y).2 := ⟨_, rfl⟩
      have HTE := Lib.hid (And.intro hT her)
      rw [← hT] at R4
      rw [← her]
      clear hr hy R3 hT her x0
      go_wp2_with fail
      refine (Dead_any R4.out.fs).mono ?_; rintro e w5 ⟨rfl, rfl⟩
      go_wp2_with fail
      refine (R4.out.crash (by decide) (by decide) (R4.out.keep HK.out)).mono ?_; rintro e w6 ⟨rfl, hr, -, hks⟩
      obtain ⟨T9, er9, g, hsv, hed, hh, hok, hrm, hg1, hg2⟩ := save_crash HS.out HI.out.1 HI.out.2.1 HAP.out HF0.out.1 HF0.out.2 HI.out.2.2 fu HY.out kp (by rw [← HTE.out.1]; exact hks)
      have hT9 : T = T9 := HTE.out.1.trans (congrArg Prod.fst hsv)
      have her9 : er = er9 := HTE.out.2.trans (congrArg Prod.snd hsv)
      rw [← hT9] at hed hh hok hrm hg2
      rw [← her9] at hed
      have R6 := Lib.hid hr
      have HC := Lib.hid (And.intro hh (And.intro hok (And.intro hrm hg1)))
      have HG2 := Lib.hid hg2
      have HFU : Hid ((T.crash kp).fuse = -1) := Lib.hid rfl
      clear hr hks hsv hh hok hrm hg1 hg2 hT9 her9 R4 HTE HY
      generalize hdd : T.dead = dd at *
      generalize T.crash kp = S6 at *
      have HOT : Hid (∀ k, 0 < k → k < i → g (f k) = some (b k)) := Lib.hid (fun k h0 hk => by
        obtain ⟨a1, a2⟩ := HAP.out k 0 hk HI.out.1 (by omega)
        rw [HC.out.2.2.2 (f k) a1 a2]
        exact Sf.gT_at i HAP.out k hk)
      have HDM : Hid (∀ s x, Sf.look S6.names s = some x → s ∈ tmp (f 0) :: (List.range i).map f) := Lib.hid (fun s x hx => by
        by_cases e1 : s = tmp (f 0)
        · rw [e1]; exact List.mem_cons_self
        · refine List.mem_cons_of_mem _ (List.mem_map.2 ?_)
          by_cases e2 : s = f 0
          · exact ⟨0, List.mem_range.2 HI.out.1, e2.symm⟩
          · have h1 := (HC.out.1.at_ s).symm.trans (Sf.cont_of hx)
            rw [HC.out.2.2.2 s e2 e1] at h1
            obtain ⟨k, hk, e⟩ := Sf.gT_dom f b i s _ h1
            exact ⟨k, List.mem_range.2 hk, e.symm⟩)
      clear HS
      have x0 := HX.out w6 R6.out.bel
      obtain ⟨v, hv⟩ : ∃ v, g (f 0) = some v := by
        rcases HG2.out with h | h
        · exact ⟨_, h⟩
        · exact ⟨_, h.2⟩
      have HV : Hid (v = bb ∨ dd = true ∧ v = b 0) := Lib.hid (by
        rcases HG2.out with h | h
        · rw [hv] at h; exact .inl (Option.some.inj h)
        · have h2 := h.2
          rw [hv] at h2
          exact .inr ⟨h.1, Option.some.inj h2⟩)
      have HRD := Lib.hid (R6.out.read (f 0) (HFS.out 0 HI.out.1))
      rw [show S6.read (f 0) = (v, 0) from Sf.read_some HC.out.1.dead ((HC.out.1.at_ (f 0)).trans hv)] at HRD
      clear hv HG2
      go_wp2_with fail
      refine HRD.out.mono ?_; rintro e w7 ⟨rfl, hb7⟩
      have R7 := Lib.hid (R6.out.far hb7)
      clear hb7 HRD R6 x0
      obtain ⟨ad2, hAd, y0, -⟩ := HA2.out.at_ R7.out.bel HI.out.1
      subst hAd
      have y0 := y0 (by omega)
      rw [Nat.zero_mul, addr_zero, show nx1 b 0 0 = .string (b 0) from rfl] at y0
      have HED : Hid (er = 0 ∧ dd = false ∨ er = 13 ∧ dd = true) := Lib.hid hed
      clear hed
      rcases HED.out with ⟨rfl, rfl⟩ | ⟨rfl, rfl⟩
      · obtain rfl : v = bb := HV.out.resolve_right (fun h => by cases h.1)
        have b0 : (v.toList == v.toList) = true := by simp
        clear HV HED hdd
        go_wp2_with fail
        clear y0 b0
        go_loopw [19, 20, 21] (fun jv _ _ U => ∃ j : Nat, 1 ≤ j ∧ j ≤ i ∧ jv = .int .i64 (j : Int) ∧ Below w7.heap.size w7 U) (fun jv _ _ _ => i - (intOf jv).toNat)
        case atStart => exact ⟨1, Nat.le_refl 1, HI.out.1, rfl, Below.refl _ _⟩
        case round =>
          rename World => U
          obtain ⟨j, hj1, hji, rfl, hbu⟩ := hrel
          have HBU := Lib.hid hbu
          clear hbu
          have j0 : (0 : Int) ≤ (j : Int) := Int.natCast_nonneg _
          have hi5 := HI.out.2.1
          by_cases hlt : j < i
          · have i2 : (j : Int) < (i : Int) := by omega
            have d1 : decide ((j : Int) < (i : Int)) = true := decide_eq_true i2
            have HWU := Lib.hid (below_step R7.out.bel HBU.out)
            obtain ⟨ad9, hAd, z0, -⟩ := HA.out.at_ HWU.out hlt
            cases hAd
            have z0 := z0 (by omega)
            obtain ⟨ad8, hAd, z1, -⟩ := HA2.out.at_ HWU.out hlt
            cases hAd
            have z1 := z1 (by omega)
            rw [Nat.mul_one, show nx1 f j 0 = .string (f j) from rfl] at z0
            rw [Nat.mul_one, show nx1 b j 0 = .string (b j) from rfl] at z1
            have HJ1 : Hid (j + 1 ≤ i ∧ 1 ≤ j + 1) := Lib.hid ⟨hlt, by omega⟩
            have HRD := Lib.hid ((R7.out.far HBU.out).read (f j) (HFS.out j hlt))
            rw [show S6.read (f j) = (b j, 0) from Sf.read_some HC.out.1.dead ((HC.out.1.at_ (f j)).trans (HOT.out j (by omega) hlt))] at HRD
            have HZ : Hid (∀ U2, Below U.heap.size U U2 → U2.cell? (ad2.add j) = some (.string (b j))) := Lib.hid (fun U2 hU => cell_keep z1 hU)
            have b0 : ((b j).toList == (b j).toList) = true := by simp
            clear hj1 hji z1
            go_wp2_with fail
            refine HRD.out.mono ?_; rintro e w8 ⟨rfl, hb8⟩
            have z1 := HZ.out w8 hb8
            have HB8 := Lib.hid (below_step HBU.out hb8)
            clear hb8 HRD z0 HZ
            go_wp2_with fail
            go_roundw
            case rel => exact ⟨j + 1, HJ1.out.2, HJ1.out.1, by go_num, HB8.out⟩
            case measure => simp [intOf]; omega
          · obtain rfl : i = j := by omega
            have d1 : decide ((i : Int) < (i : Int)) = false := by simp
            have R8 := Lib.hid (R7.out.far HBU.out)
            have x0 := HX.out U R8.out.bel
            clear hlt hji hj1 j0
            go_wp2_with fail
            refine (Save_any R8.out (by decide) (by decide) (f 0) (by have := HF0.out.2; omega) v HI.out.2.2).mono ?_; rintro e w8 ⟨y, hy, rfl, hr, -⟩
            have hsz : Go.Maps.size S6.names ≤ i + 1 := by
              have := Sf.size_le R8.out.ok.nice R8.out.keys _ HDM.out
              simpa using this
            have htl := Sf.total_le HC.out.2.1
            have htl2 : S6.total ≤ (i + 1) * 300 := Nat.le_trans htl (Nat.mul_le_mul_right _ hsz)
            obtain ⟨s1, s2, s3, s4, s5⟩ := Sf.has_save R8.out.ok R8.out.keys HC.out.1 HFU.out (n := f 0) (b := v) (Sf.name_of (by have := HF0.out.2; omega) HF0.out.1) HF0.out.2 hy (by omega) (by rw [HC.out.2.2.1]; have := HI.out.2.2; omega)
            rw [s1]
            have R9 := Lib.hid hr; have H9 := Lib.hid s2
            generalize (S6.save (f 0) v y).1 = S9 at *
            clear hr hy s1 s2 s3 s4 s5 hsz htl htl2 x0
            have x0 := HX.out w8 R9.out.bel
            go_wp2_with fail
            refine (R9.out.read (f 0) (HFS.out 0 HI.out.1)).mono ?_; rintro e w9 ⟨rfl, hb9⟩
            have HFB := Lib.hid (R9.out.far hb9).bel
            rw [show S9.read (f 0) = (v, 0) from Sf.read_some H9.out.dead ((H9.out.at_ (f 0)).trans (if_pos rfl))]
            have b0 : ((v).toList == (v).toList) = true := by simp
            clear hb9
            go_wp2_with fail
            go_ret
            exact ⟨rfl, HFB.out⟩
      · by_cases hvb : v = bb
        · subst hvb
          have b0 : (v.toList == v.toList) = true := by simp
          clear HV HED hdd
          go_wp2_with fail
          clear y0 b0
          go_loopw [19, 20, 21] (fun jv _ _ U => ∃ j : Nat, 1 ≤ j ∧ j ≤ i ∧ jv = .int .i64 (j : Int) ∧ Below w7.heap.size w7 U) (fun jv _ _ _ => i - (intOf jv).toNat)
          case atStart => exact ⟨1, Nat.le_refl 1, HI.out.1, rfl, Below.refl _ _⟩
          case round =>
            rename World => U
            obtain ⟨j, hj1, hji, rfl, hbu⟩ := hrel
            have HBU := Lib.hid hbu
            clear hbu
            have j0 : (0 : Int) ≤ (j : Int) := Int.natCast_nonneg _
            have hi5 := HI.out.2.1
            by_cases hlt : j < i
            · have i2 : (j : Int) < (i : Int) := by omega
              have d1 : decide ((j : Int) < (i : Int)) = true := decide_eq_true i2
              have HWU := Lib.hid (below_step R7.out.bel HBU.out)
              obtain ⟨ad9, hAd, z0, -⟩ := HA.out.at_ HWU.out hlt
              cases hAd
              have z0 := z0 (by omega)
              obtain ⟨ad8, hAd, z1, -⟩ := HA2.out.at_ HWU.out hlt
              cases hAd
              have z1 := z1 (by omega)
              rw [Nat.mul_one, show nx1 f j 0 = .string (f j) from rfl] at z0
              rw [Nat.mul_one, show nx1 b j 0 = .string (b j) from rfl] at z1
              have HJ1 : Hid (j + 1 ≤ i ∧ 1 ≤ j + 1) := Lib.hid ⟨hlt, by omega⟩
              have HRD := Lib.hid ((R7.out.far HBU.out).read (f j) (HFS.out j hlt))
              rw [show S6.read (f j) = (b j, 0) from Sf.read_some HC.out.1.dead ((HC.out.1.at_ (f j)).trans (HOT.out j (by omega) hlt))] at HRD
              have HZ : Hid (∀ U2, Below U.heap.size U U2 → U2.cell? (ad2.add j) = some (.string (b j))) := Lib.hid (fun U2 hU => cell_keep z1 hU)
              have b0 : ((b j).toList == (b j).toList) = true := by simp
              clear hj1 hji z1
              go_wp2_with fail
              refine HRD.out.mono ?_; rintro e w8 ⟨rfl, hb8⟩
              have z1 := HZ.out w8 hb8
              have HB8 := Lib.hid (below_step HBU.out hb8)
              clear hb8 HRD z0 HZ
              go_wp2_with fail
              go_roundw
              case rel => exact ⟨j + 1, HJ1.out.2, HJ1.out.1, by go_num, HB8.out⟩
              case measure => simp [intOf]; omega
            · obtain rfl : i = j := by omega
              have d1 : decide ((i : Int) < (i : Int)) = false := by simp
              have R8 := Lib.hid (R7.out.far HBU.out)
              have x0 := HX.out U R8.out.bel
              clear hlt hji hj1 j0
              go_wp2_with fail
              refine (Save_any R8.out (by decide) (by decide) (f 0) (by have := HF0.out.2; omega) v HI.out.2.2).mono ?_; rintro e w8 ⟨y, hy, rfl, hr, -⟩
              have hsz : Go.Maps.size S6.names ≤ i + 1 := by
                have := Sf.size_le R8.out.ok.nice R8.out.keys _ HDM.out
                simpa using this
              have htl := Sf.total_le HC.out.2.1
              have htl2 : S6.total ≤ (i + 1) * 300 := Nat.le_trans htl (Nat.mul_le_mul_right _ hsz)
              obtain ⟨s1, s2, s3, s4, s5⟩ := Sf.has_save R8.out.ok R8.out.keys HC.out.1 HFU.out (n := f 0) (b := v) (Sf.name_of (by have := HF0.out.2; omega) HF0.out.1) HF0.out.2 hy (by omega) (by rw [HC.out.2.2.1]; have := HI.out.2.2; omega)
              rw [s1]
              have R9 := Lib.hid hr; have H9 := Lib.hid s2
              generalize (S6.save (f 0) v y).1 = S9 at *
              clear hr hy s1 s2 s3 s4 s5 hsz htl htl2 x0
              have x0 := HX.out w8 R9.out.bel
              go_wp2_with fail
              refine (R9.out.read (f 0) (HFS.out 0 HI.out.1)).mono ?_; rintro e w9 ⟨rfl, hb9⟩
              have HFB := Lib.hid (R9.out.far hb9).bel
              rw [show S9.read (f 0) = (v, 0) from Sf.read_some H9.out.dead ((H9.out.at_ (f 0)).trans (if_pos rfl))]
              have b0 : ((v).toList == (v).toList) = true := by simp
              clear hb9
              go_wp2_with fail
              go_ret
              exact ⟨rfl, HFB.out⟩
        · obtain rfl : v = b 0 := (HV.out.resolve_left hvb).2
          have b0 : ((b 0).toList == bb.toList) = false := by rw [str_beq]; exact decide_eq_false hvb
          have b1 : ((b 0).toList == (b 0).toList) = true := by simp
          clear HV HED hdd hvb
          go_wp2_with fail
          clear y0 b0
          go_loopw [19, 20, 21] (fun jv _ _ U => ∃ j : Nat, 1 ≤ j ∧ j ≤ i ∧ jv = .int .i64 (j : Int) ∧ Below w7.heap.size w7 U) (fun jv _ _ _ => i - (intOf jv).toNat)
          case atStart => exact ⟨1, Nat.le_refl 1, HI.out.1, rfl, Below.refl _ _⟩
          case round =>
            rename World => U
            obtain ⟨j, hj1, hji, rfl, hbu⟩ := hrel
            have HBU := Lib.hid hbu
            clear hbu
            have j0 : (0 : Int) ≤ (j : Int) := Int.natCast_nonneg _
            have hi5 := HI.out.2.1
            by_cases hlt : j < i
            · have i2 : (j : Int) < (i : Int) := by omega
              have d1 : decide ((j : Int) < (i : Int)) = true := decide_eq_true i2
              have HWU := Lib.hid (below_step R7.out.bel HBU.out)
              obtain ⟨ad9, hAd, z0, -⟩ := HA.out.at_ HWU.out hlt
              cases hAd
              have z0 := z0 (by omega)
              obtain ⟨ad8, hAd, z1, -⟩ := HA2.out.at_ HWU.out hlt
              cases hAd
              have z1 := z1 (by omega)
              rw [Nat.mul_one, show nx1 f j 0 = .string (f j) from rfl] at z0
              rw [Nat.mul_one, show nx1 b j 0 = .string (b j) from rfl] at z1
              have HJ1 : Hid (j + 1 ≤ i ∧ 1 ≤ j + 1) := Lib.hid ⟨hlt, by omega⟩
              have HRD := Lib.hid ((R7.out.far HBU.out).read (f j) (HFS.out j hlt))
              rw [show S6.read (f j) = (b j, 0) from Sf.read_some HC.out.1.dead ((HC.out.1.at_ (f j)).trans (HOT.out j (by omega) hlt))] at HRD
              have HZ : Hid (∀ U2, Below U.heap.size U U2 → U2.cell? (ad2.add j) = some (.string (b j))) := Lib.hid (fun U2 hU => cell_keep z1 hU)
              have b0 : ((b j).toList == (b j).toList) = true := by simp
              clear hj1 hji z1
              go_wp2_with fail
              refine HRD.out.mono ?_; rintro e w8 ⟨rfl, hb8⟩
              have z1 := HZ.out w8 hb8
              have HB8 := Lib.hid (below_step HBU.out hb8)
              clear hb8 HRD z0 HZ
              go_wp2_with fail
              go_roundw
              case rel => exact ⟨j + 1, HJ1.out.2, HJ1.out.1, by go_num, HB8.out⟩
              case measure => simp [intOf]; omega
            · obtain rfl : i = j := by omega
              have d1 : decide ((i : Int) < (i : Int)) = false := by simp
              have R8 := Lib.hid (R7.out.far HBU.out)
              have x0 := HX.out U R8.out.bel
              clear hlt hji hj1 j0
              go_wp2_with fail
              refine (Save_any R8.out (by decide) (by decide) (f 0) (by have := HF0.out.2; omega) bb HI.out.2.2).mono ?_; rintro e w8 ⟨y, hy, rfl, hr, -⟩
              have hsz : Go.Maps.size S6.names ≤ i + 1 := by
                have := Sf.size_le R8.out.ok.nice R8.out.keys _ HDM.out
                simpa using this
              have htl := Sf.total_le HC.out.2.1
              have htl2 : S6.total ≤ (i + 1) * 300 := Nat.le_trans htl (Nat.mul_le_mul_right _ hsz)
              obtain ⟨s1, s2, s3, s4, s5⟩ := Sf.has_save R8.out.ok R8.out.keys HC.out.1 HFU.out (n := f 0) (b := bb) (Sf.name_of (by have := HF0.out.2; omega) HF0.out.1) HF0.out.2 hy (by omega) (by rw [HC.out.2.2.1]; have := HI.out.2.2; omega)
              rw [s1]
              have R9 := Lib.hid hr; have H9 := Lib.hid s2
              generalize (S6.save (f 0) bb y).1 = S9 at *
              clear hr hy s1 s2 s3 s4 s5 hsz htl htl2 x0
              have x0 := HX.out w8 R9.out.bel
              go_wp2_with fail
              refine (R9.out.read (f 0) (HFS.out 0 HI.out.1)).mono ?_; rintro e w9 ⟨rfl, hb9⟩
              have HFB := Lib.hid (R9.out.far hb9).bel
              rw [show S9.read (f 0) = (bb, 0) from Sf.read_some H9.out.dead ((H9.out.at_ (f 0)).trans (if_pos rfl))]
              have b0 : ((bb).toList == (bb).toList) = true := by simp
              clear hb9
              go_wp2_with fail
              go_ret
              exact ⟨rfl, HFB.out⟩
set_option maxRecDepth 100000 in
theorem diskWhole_walk {H : Type} {enc : TypeId × Value → H} {r0 r1 r4 : Reach} {b0 b1 b4 : Nat} {v0 v1 v4 : Value} {d0 d1 d4 : DataW H} {p0 p1 p4 : List MemPlace} (w : World)
    (o0 : Value.okWide Try.prog w r0 b0 22 v0) (h0 : DataW.Trod enc Try.prog w 0 (fun _ => true) true 22 v0 d0 p0)
    (o1 : Value.okWide Try.prog w r1 b1 22 v1) (h1 : DataW.Trod enc Try.prog w 0 (fun _ => true) true 22 v1 d1 p1)
    (bb : ByteArray) (_hb : bb.size ≤ maxLen) (fu : Int) (_hf : (Lit.int .i64 fu).wf = true)
    (o4 : Value.okWide Try.prog w r4 b4 23 v4) (h4 : DataW.Trod enc Try.prog w 0 (fun _ => true) true 23 v4 d4 p4) :
    Calls Try.prog 3 #[v0, v1, .string bb, .int .i64 fu, v4] w fun e w' => e = .returned (.bool true) ∧ Below w.heap.size w w' := by
  obtain ⟨A, n, c, f, rfl, -, hA, -⟩ := open_names o0 h0
  obtain ⟨A2, n2, c2, b, rfl, -, hA2, -⟩ := open_names o1 h1
  obtain ⟨A3, c3, k, rfl, hk⟩ := open_keep o4 h4
  exact diskWhole_walk0 w A n c f hA A2 n2 c2 b hA2 bb fu hk
end Go.Proofs.Ytgpmomjdjakklaa
