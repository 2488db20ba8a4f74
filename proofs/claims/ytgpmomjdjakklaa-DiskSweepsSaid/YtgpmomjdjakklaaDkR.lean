/-
  DiskTwo: the walk.
-/
import Derived.Test.YtgpmomjdjakklaaDkQ
import Derived.BigQuiet
namespace Go.Proofs.Ytgpmomjdjakklaa
open Go.RowKit Go.Maps
open Go.ChangeShapes Go.WideShapes Go.Deep
section
variable {P : Program} {ops : Array Oper} {Q : Exit → Act → World → Prop} {md : Region.Mode}
/-- all that are left are in T -/
def leftB (listed : Array Bool) (T : List Nat) : Bool := (List.range listed.size).all fun j => listed.getD j true || T.contains j
/-- where nothing more is asked of the worlds to come, another thing may be asked -/
theorem wpAnyT_switch {S S2 : World → Prop} {T T2 : List Nat} : ∀ (fuel : Nat) (listed : Array Bool) (a : Act) (w : World), (∀ j, listed.getD j true = false → T.contains j = true) → wpAnyT P md ops Q S2 T2 fuel listed a w → wpAnyT P md ops Q S T fuel listed a w
  | 0, _, _, _, _, h => h
  | fuel + 1, listed, a, w, hl, h => ⟨h.1, fun i hi => wpOp_mono (fun a' w' h' => ⟨fun hc => (by rw [hl i (mem_ready.1 hi).1] at hc; cases hc), wpAnyT_switch fuel _ a' w' (fun j hj => hl j (by
      by_cases hij : i = j
      · subst hij
        exact (mem_ready.1 hi).1
      · rwa [getD_set_ne true hij] at hj)) h'.2⟩) (h.2 i hi)⟩
theorem wpAnyT_turn {S : World → Prop} (S2 : World → Prop) {T : List Nat} (T2 : List Nat) {fuel : Nat} {listed : Array Bool} {a : Act} {w : World} (hl : leftB listed T = true) (h : wpAnyT P md ops Q S2 T2 fuel listed a w) : wpAnyT P md ops Q S T fuel listed a w :=
  wpAnyT_switch fuel listed a w (fun j hj => by
    have hlt : j < listed.size := by
      apply Decidable.byContradiction
      intro hge
      simp [Array.getD, hge] at hj
    have := List.all_eq_true.1 hl j (List.mem_range.2 hlt)
    rw [hj, Bool.false_or] at this
    exact this) h
end
/-- texts, one by one -/
def nx1 (f : Nat → ByteArray) (i _ : Nat) : Value := .string (f i)
section Came2
variable {H : Type} {enc : TypeId × Value → H} {w : World} {spare : Nat → Bool} {held : Bool}
set_option maxRecDepth 100000 in
theorem open_names {r : Reach} {b0 : Nat} {v : Value} {d : DataW H} {p : List MemPlace} (hv : Value.okWide Try.prog w r b0 22 v) (h : DataW.Trod enc Try.prog w 0 spare held 22 v d p) :
    ∃ (A : Option Addr) (n c : Nat) (f : Nat → ByteArray), v = .slice A n c ∧ n ≤ maxLen ∧ Row 1 (nx1 f) w A n ∧ ∀ i, i < n → (f i).size ≤ maxLen := by
  obtain ⟨A, n, c, rfl⟩ := okWide_slice Try.underlying22 hv
  obtain ⟨fuel, hf⟩ := h
  rcases open_slice Try.underlying22 hf with ⟨hcs, _⟩ | ⟨a, len, cap, m, n', D, Pl, hcs, _, hl, hm, hmm, _, hi⟩
  · simp [Value.cells] at hcs
    obtain ⟨rfl, rfl, rfl⟩ := hcs
    exact ⟨none, 0, 0, fun _ => ByteArray.empty, rfl, by simp, fun h => absurd h (by omega), fun i hi => absurd hi (Nat.not_lt_zero i)⟩
  · simp [Value.cells] at hcs
    obtain ⟨rfl, rfl, rfl⟩ := hcs
    have hc1 : Try.prog.cellsOf 9 = 1 := by kernel_rfl
    have hlm : n ≤ m := by rw [hmm]; split <;> omega
    have each : ∀ i, i < m → ∃ q : ByteArray, w.cell? (a.add (i * 1)) = some (.string q) ∧ q.size ≤ maxLen := fun i him => by
      obtain ⟨cs', h1, h2⟩ := hi i him
      rw [hc1] at h1
      obtain ⟨_, hlen, hcell⟩ := World.cells?_some h1
      obtain ⟨q, hq, -, hw⟩ := DataW.trod_string Try.underlying9 h2
      have e := hcell 0 (by omega)
      rw [add_add] at e
      refine ⟨q, ?_, hw⟩
      rw [hq] at e
      exact e
    have : Inhabited ByteArray := ⟨ByteArray.empty⟩
    obtain ⟨q, hq⟩ := choose_lt each
    refine ⟨some a, n, c, q, rfl, Nat.le_trans hl hm, fun hn => ⟨a, rfl, ?_, fun i hin j hj => ?_⟩, fun i hi => (hq i (Nat.lt_of_lt_of_le hi hlm)).2⟩
    · have := block_lt_of_cell (hq 0 (by omega)).1
      rwa [addr_block] at this
    · obtain rfl : j = 0 := by omega
      exact (hq i (by omega)).1
end Came2
theorem tmp_list (s : ByteArray) : (s.toList == [116, 109, 112, 45]) = decide (s = tmpN) := by
  have e : (⟨#[116, 109, 112, 45]⟩ : ByteArray).toList = [116, 109, 112, 45] := by rw [ByteArray.toList_eq]
  rw [← e]
  exact str_beq s tmpN
namespace Sf
/-- what is saved, one by one -/
def gT (f b : Nat → ByteArray) : Nat → ByteArray → Option ByteArray
  | 0 => fun _ => none
  | i + 1 => putG (gT f b i) (f i) (b i)
theorem gT_dom (f b : Nat → ByteArray) : ∀ (i : Nat) (s : ByteArray) (v : ByteArray), gT f b i s = some v → ∃ k, k < i ∧ s = f k
  | 0, s, v, h => by cases h
  | i + 1, s, v, h => by
    unfold gT putG at h
    split at h
    · rename_i e; exact ⟨i, Nat.lt_succ_self i, e⟩
    · split at h
      · cases h
      · obtain ⟨k, hk, e⟩ := gT_dom f b i s v h
        exact ⟨k, Nat.lt_succ_of_lt hk, e⟩
theorem gT_succ {f b : Nat → ByteArray} {i : Nat} {s : ByteArray} (h : s ≠ tmp (f i)) : gT f b (i + 1) s = if s = f i then some (b i) else gT f b i s := by
  show putG (gT f b i) (f i) (b i) s = _
  unfold putG
  rw [if_neg h]
theorem gT_some {f b : Nat → ByteArray} {s : ByteArray} : ∀ (i k : Nat), k < i → (∀ j, j < i → s ≠ tmp (f j)) → s = f k → (gT f b i s).isSome = true
  | 0, k, h, _, _ => absurd h (Nat.not_lt_zero k)
  | i + 1, k, h, ht, e => by
    rw [gT_succ (ht i (Nat.lt_succ_self i))]
    split
    · rfl
    · rename_i hne
      have hk : k < i := by
        rcases Nat.lt_succ_iff_lt_or_eq.1 h with h1 | h1
        · exact h1
        · rw [h1] at e; exact absurd e hne
      exact gT_some i k hk (fun j hj => ht j (Nat.lt_succ_of_lt hj)) e
/-- a name that may be saved -/
structure GoodN (s : ByteArray) : Prop where
  lo : 0 < s.size
  hi : s.size ≤ 36
  no : s.extract 0 (min s.size 4) ≠ tmpN
theorem GoodN.ne_tmp {s : ByteArray} (h : GoodN s) (t : ByteArray) : s ≠ tmp t := fun e => by
  refine h.no ?_
  rw [e]
  have hz := tmp_size t
  have hm : min (tmp t).size 4 = 4 := by omega
  rw [hm]
  unfold tmp
  have h4 : tmpN.size = 4 := rfl
  rw [← h4]
  exact ByteArray.extract_append_eq_left rfl
end Sf
/-- a machine on which files were saved, one by one -/
structure SavedTo (W : World) (base fb : Nat) (f b : Nat → ByteArray) (room : Int) (i : Nat) (S : Sf.St) (wr : World) : Prop where
  runs : Runs W base fb (300 * i) (7 * i) S wr
  ok : Sf.StOk 300 (7 * i) S
  has : Sf.Has S (Sf.gT f b i)
  fuse : S.fuse = -1
  room : S.room = room
theorem SavedTo.size {W : World} {base fb : Nat} {f b : Nat → ByteArray} {room : Int} {i : Nat} {S : Sf.St} {wr : World} (h : SavedTo W base fb f b room i S wr) : Go.Maps.size S.names ≤ i := by
  have := Sf.size_le h.ok.nice h.runs.keys ((List.range i).map f) (fun s x hx => by
    have h2 := (h.has.at_ s).symm.trans (Sf.cont_of hx)
    obtain ⟨k, hk, e⟩ := Sf.gT_dom f b i s _ h2
    exact List.mem_map.2 ⟨k, List.mem_range.2 hk, e.symm⟩)
  simpa using this
theorem SavedTo.save {W : World} {base fb : Nat} {f b : Nat → ByteArray} {room : Int} {i : Nat} {S : Sf.St} {wr : World} (h : SavedTo W base fb f b room i S wr) (hi : i ≤ 20) (hn0 : 0 < (f i).size) (hn : (f i).size ≤ 36) (hb : (b i).size ≤ 300) (hroom : ((300 * (i + 1) : Nat) : Int) ≤ room) :
    Calls Try.prog 10 #[.pointer (some ⟨fb, 0, none⟩), .string (f i), .string (b i)] wr fun e w' => ∃ S2, e = .returned (.int .i64 0) ∧ SavedTo W base fb f b room (i + 1) S2 w' ∧ Moves wr w' := by
  refine (Save_any h.runs (by omega) (by omega) (f i) (by omega) (b i) hb).mono ?_
  rintro e w' ⟨y, hy, rfl, hr2, hm⟩
  have hz := h.size
  have ht := Sf.total_le h.ok
  have ht2 : S.total ≤ i * 300 := Nat.le_trans ht (Nat.mul_le_mul_right _ hz)
  obtain ⟨s1, s2, s3, s4, s5⟩ := Sf.has_save h.runs.ok h.runs.keys h.has h.fuse (n := f i) (b := b i) (Sf.name_of (by omega) hn0) hn hy (by omega) (by rw [h.room]; omega)
  exact ⟨_, by rw [s1], ⟨by rw [Nat.mul_succ, Nat.mul_succ]; exact hr2, by rw [Nat.mul_succ]; exact h.ok.save (f i) (b i) hb hy, s2, s3, s4.trans h.room⟩, hm⟩
theorem SavedTo.far {W : World} {base fb : Nat} {f b : Nat → ByteArray} {room : Int} {i : Nat} {S : Sf.St} {wr w2 : World} (h : SavedTo W base fb f b room i S wr) (hb : Below wr.heap.size wr w2) : SavedTo W base fb f b room i S w2 := ⟨h.runs.far hb, h.ok, h.has, h.fuse, h.room⟩
theorem SavedTo.zero {W : World} {base fb : Nat} (f b : Nat → ByteArray) {room : Int} (hr : 0 ≤ room) {wr : World} (h : Runs W base fb 0 0 (Sf.St.new room) wr) : SavedTo W base fb f b room 0 (Sf.St.new room) wr :=
  ⟨h, h.ok.mono (by decide) (Nat.le_refl 0), Sf.Has.new room, rfl, by show max room 0 = room; omega⟩
set_option maxRecDepth 100000 in
set_option maxHeartbeats 8000000 in
theorem diskTwo_walk0 (W : World) (A : Option Addr) (n c : Nat) (_hn : n ≤ maxLen) (f : Nat → ByteArray) (hA : Row 1 (nx1 f) W A n) (hf : ∀ i, i < n → (f i).size ≤ maxLen) (A2 : Option Addr) (n2 c2 : Nat) (_hn2 : n2 ≤ maxLen) (b : Nat → ByteArray) (hA2 : Row 1 (nx1 b) W A2 n2) (_hb : ∀ i, i < n2 → (b i).size ≤ maxLen) {A3 : Option Addr} {c3 : Nat} {kp : Sf.Keep} (hk : KeepIn W A3 c3 kp) :
    Calls Try.prog 6 #[.slice A n c, .slice A2 n2 c2, .slice A3 kp.n c3] W fun e w' => e = .returned (.bool true) ∧ Below W.heap.size W w' := by
  have HK := Lib.hid hk; have HA := Lib.hid hA; have HA2 := Lib.hid hA2
  have HF := Lib.hid hf
  clear hk hA hA2 hf
  go_enter Try.func6, Try.ntmps6
  go_wp2_with fail
  refine (works_any W).mono ?_; rintro e w1 ⟨rfl, hb1⟩
  have HB1 := Lib.hid hb1; clear hb1
  go_wp2_with fail
  refine (runs_new HB1.out 100000 (by decide)).mono ?_; rintro e w2 ⟨fb, rfl, hr, hb2⟩
  have R2 := Lib.hid hr; clear hr hb2
  obtain ⟨base, hbase⟩ : ∃ base, base = w1.heap.size := ⟨_, rfl⟩
  rw [← hbase] at R2
  clear hbase
  by_cases hn10 : 10 < n
  · have d1 : decide ((10 : Int) < (n : Int)) = true := decide_eq_true (by omega)
    have d2 : decide (10 < n) = true := decide_eq_true hn10
    go_wp2_with fail
    go_ret
    exact ⟨rfl, R2.out.bel⟩
  have d1 : decide ((10 : Int) < (n : Int)) = false := decide_eq_false (by omega)
  have d2 : decide (10 < n) = false := decide_eq_false hn10
  by_cases hne : ¬ n2 = n
  · have d3 : (((n2 : Nat) : Int) != ((n : Nat) : Int)) = true := by simp; omega
    have d4 : decide (((n2 : Nat) : Int) = ((n : Nat) : Int)) = false := decide_eq_false (by omega)
    go_wp2_with fail
    go_ret
    exact ⟨rfl, R2.out.bel⟩
  obtain rfl : n2 = n := Decidable.not_not.1 hne
  clear hne
  have d3 : (((n2 : Nat) : Int) != ((n2 : Nat) : Int)) = false := by simp
  by_cases hk20 : 20 < kp.n
  · have d5 : decide ((20 : Int) < (kp.n : Int)) = true := decide_eq_true (by omega)
    have d6 : decide (20 < kp.n) = true := decide_eq_true hk20
    go_wp2_with fail
    go_ret
    exact ⟨rfl, R2.out.bel⟩
  have d5 : decide ((20 : Int) < (kp.n : Int)) = false := decide_eq_false (by omega)
  have d6 : decide (20 < kp.n) = false := decide_eq_false hk20
  go_wp2_with fail
  clear d1 d2 d3 d5 d6
  have HS0 := Lib.hid (SavedTo.zero f b (show (0 : Int) ≤ 100000 by decide) R2.out)
  have HN := Lib.hid hn10
  clear R2 HB1
  go_loopw [9] (fun iv wr => ∃ (i : Nat) (S : Sf.St), i ≤ n2 ∧ iv = .int .i64 (i : Int) ∧ SavedTo W base fb f b 100000 i S wr ∧ (∀ k, k < i → Sf.GoodN (f k) ∧ (b k).size ≤ 300)) (fun iv _ => n2 - (intOf iv).toNat)
  case atStart => exact ⟨0, _, Nat.zero_le _, rfl, HS0.out, fun k hk => absurd hk (Nat.not_lt_zero k)⟩
  case round =>
    obtain ⟨i, S, hin, rfl, hs, hg⟩ := hrel
    have HS := Lib.hid hs; have HG := Lib.hid hg
    clear hs hg HS0
    have i0 : (0 : Int) ≤ (i : Int) := Int.natCast_nonneg _
    by_cases hlt : i < n2
    · have i1 : (i : Int) < (n2 : Int) := by omega
      have d1 : decide ((i : Int) < (n2 : Int)) = true := decide_eq_true i1
      obtain ⟨ad, hAd, x0, -⟩ := HA.out.at_ HS.out.runs.bel hlt
      subst hAd
      have x0 := x0 (by omega)
      obtain ⟨ad2, hAd, y0, -⟩ := HA2.out.at_ HS.out.runs.bel hlt
      subst hAd
      have y0 := y0 (by omega)
      rw [Nat.mul_one, show nx1 f i 0 = .string (f i) from rfl] at x0
      rw [Nat.mul_one, show nx1 b i 0 = .string (b i) from rfl] at y0
      have HI1 : Hid (i + 1 ≤ n2) := Lib.hid hlt
      have HBL := Lib.hid HS.out.runs.bel
      obtain ⟨m, hm⟩ : ∃ m, m = min (f i).size 4 := ⟨_, rfl⟩
      have HGI : Hid (0 < (f i).size → (f i).size ≤ 36 → (f i).extract 0 m ≠ tmpN → Sf.GoodN (f i)) := Lib.hid (fun a b c => ⟨a, b, by rw [← hm]; exact c⟩)
      have hmin : min ((f i).size : Int) 4 = (m : Int) := by omega
      have m0 : (0 : Int) ≤ (m : Int) := by omega
      have m1 : (m : Int) ≤ ((f i).size : Int) := by omega
      clear hin hm
      generalize hfi : f i = fi at *
      generalize hbi : b i = bi at *
      by_cases hz1 : 36 < fi.size
      · have e1 : decide ((36 : Int) < (fi.size : Int)) = true := decide_eq_true (by omega)
        have e2 : decide (36 < fi.size) = true := decide_eq_true hz1
        go_wp2_with fail
        go_quiet (fail)
        go_wp2_with fail
        go_ret
        exact ⟨rfl, below_drewN HBL.out _⟩
      have e1 : decide ((36 : Int) < (fi.size : Int)) = false := decide_eq_false (by omega)
      have e2 : decide (36 < fi.size) = false := decide_eq_false hz1
      by_cases hz2 : 300 < bi.size
      · have e3 : decide ((300 : Int) < (bi.size : Int)) = true := decide_eq_true (by omega)
        have e4 : decide (300 < bi.size) = true := decide_eq_true hz2
        go_wp2_with fail
        go_quiet (fail)
        go_wp2_with fail
        go_ret
        exact ⟨rfl, below_drewN HBL.out _⟩
      have e3 : decide ((300 : Int) < (bi.size : Int)) = false := decide_eq_false (by omega)
      have e4 : decide (300 < bi.size) = false := decide_eq_false hz2
      by_cases hz3 : fi.size = 0
      · have e5 : fi.toList.isEmpty = true := by rw [isEmpty_eq]; exact decide_eq_true hz3
        go_wp2_with fail
        go_quiet (fail)
        go_wp2_with fail
        go_ret
        exact ⟨rfl, below_drewN HBL.out _⟩
      have e5 : fi.toList.isEmpty = false := by rw [isEmpty_eq]; exact decide_eq_false hz3
      by_cases hz4 : fi.extract 0 m = tmpN
      · have e6 : ((fi.extract 0 m).toList == [116, 109, 112, 45]) = true := by rw [tmp_list]; exact decide_eq_true hz4
        clear hz4
        go_wp2_with fail
        go_quiet (fail)
        go_wp2_with fail
        go_ret
        exact ⟨rfl, below_drewN HBL.out _⟩
      have e6 : ((fi.extract 0 m).toList == [116, 109, 112, 45]) = false := by rw [tmp_list]; exact decide_eq_false hz4
      have HGN : Hid (0 < fi.size ∧ fi.size ≤ 36 ∧ bi.size ≤ 300) := Lib.hid ⟨by omega, by omega, by omega⟩
      have HGG : Hid (∀ k, k < i + 1 → Sf.GoodN (f k) ∧ (b k).size ≤ 300) := Lib.hid (fun k hk => by
        by_cases e : k = i
        · rw [e, hfi, hbi]
          exact ⟨HGI.out HGN.out.1 HGN.out.2.1 hz4, HGN.out.2.2⟩
        · exact HG.out k (by omega))
      clear hz1 hz2 hz3 hz4 HGI HG
      go_wp2_with fail
      go_quiet (fail)
      go_wp2_with fail
      clear e1 e2 e3 e4 e5 e6 hmin m0 m1
      have hbq : Below wr.heap.size wr (wr.drewN nq) := below_drewN (Below.refl _ _) _
      have HSQ := Lib.hid (HS.out.far hbq)
      have x0 := cell_keep x0 hbq
      have y0 := cell_keep y0 hbq
      clear hbq HS HBL
      generalize wr.drewN nq = wq at *
      refine plain_T (fun U => Below wq.heap.size wq U) [9, 10] (by kernel_rfl) ?_
      have HD : Hid (Below wq.heap.size wq wq.drew) := Lib.hid (Below.refl _ _).drew
      generalize wq.drew = wd at HD ⊢
      have HSV := Lib.hid (fun U (hU : Below wq.heap.size wq U) => SavedTo.save (HSQ.out.far hU) (by have := HN.out; omega) (by rw [hfi]; exact HGN.out.1) (by rw [hfi]; exact HGN.out.2.1) (by rw [hbi]; exact HGN.out.2.2) (by have := HN.out; omega))
      rw [hfi, hbi] at HSV
      have HX : Hid (∀ U, Below wq.heap.size wq U → U.cell? (ad.add i) = some (.string fi) ∧ U.cell? (ad2.add i) = some (.string bi)) := Lib.hid (fun U hU => ⟨cell_keep x0 hU, cell_keep y0 hU⟩)
      clear hfi hbi
      refine wpAnyT_pick (S := (fun U => Below wq.heap.size wq U)) (by kernel_rfl) Only.panic Only.keepsIn (w := wd) HD.out [0, 1, 2, 3, 4, 5, 6, 7, 8] 2 _ _ (by kernel_rfl) ?_
      refine PickT.value (d := some 85) (.pointer (some ⟨fb, 0, none⟩)) rfl rfl (by kernel_rfl) (fun U hU => (by go_simp)) ?_
      refine PickT.value (d := some 86) (.slice (some ad) n2 c) rfl rfl (by kernel_rfl) (fun U hU => (by go_simp)) ?_
      refine PickT.value (d := some 87) (.int .i64 (i : Int)) rfl rfl (by kernel_rfl) (fun U hU => (by go_simp)) ?_
      refine PickT.value (d := some 88) (.pointer (some (ad.add i))) rfl rfl (by kernel_rfl) (fun U hU => (by go_simp)) ?_
      refine PickT.value (d := some 89) (.string fi) rfl rfl (by kernel_rfl) (fun U hU => (by obtain ⟨h0, h1⟩ := HX.out U hU; go_simp)) ?_
      refine PickT.value (d := some 90) (.slice (some ad2) n2 c2) rfl rfl (by kernel_rfl) (fun U hU => (by go_simp)) ?_
      refine PickT.value (d := some 91) (.int .i64 (i : Int)) rfl rfl (by kernel_rfl) (fun U hU => (by go_simp)) ?_
      refine PickT.value (d := some 92) (.pointer (some (ad2.add i))) rfl rfl (by kernel_rfl) (fun U hU => (by go_simp)) ?_
      refine PickT.value (d := some 93) (.string bi) rfl rfl (by kernel_rfl) (fun U hU => (by obtain ⟨h0, h1⟩ := HX.out U hU; go_simp)) ?_
      simp only [PickT, Act.put, List.setIfInBounds_toArray, List.set_cons_zero, List.set_cons_succ]
      refine wpAnyT_turn (fun _ => True) [] (by kernel_rfl) ?_
      refine wpAnyT_one (i := 9) (by kernel_rfl) rfl (by kernel_rfl) ?_
      intro K hK
      unfold Oper.wp
      go_simp
      refine (HSV.out _ HD.out).mono ?_; rintro e w9 ⟨S2, rfl, hs2, -⟩
      have HS2 := Lib.hid hs2
      clear hs2 HSV HX
      refine hK _ _ (fun _ => True.intro) ?_
      clear hK K
      refine wpAnyT_pick (S := (fun _ => True)) (by kernel_rfl) Only.panic Only.keepsIn (w := w9) True.intro [10] 0 _ _ (by kernel_rfl) ?_
      refine PickT.value (d := some 95) (.bool false) rfl rfl (by kernel_rfl) (fun U hU => (by go_simp)) ?_
      simp only [PickT, Act.put, List.setIfInBounds_toArray, List.set_cons_zero, List.set_cons_succ]
      refine wpAnyT_done (by kernel_rfl) ?_ _
      refine only_mk ?_
      go_wp2_with fail
      go_roundw
      case rel => exact ⟨i + 1, S2, HI1.out, by go_num, HS2.out, HGG.out⟩
      case measure => simp [intOf]; omega
    · have d1 : decide ((i : Int) < (n2 : Int)) = false := decide_eq_false (by omega)
      obtain rfl : i = n2 := by omega
      clear hlt hin i0
      have hi10 := HN.out
      have HSZ : Hid (Go.Maps.size (S.crash kp).names ≤ i) := Lib.hid (by rw [(Sf.whole_crash HS.out.has.whole kp).1]; exact HS.out.size)
      have H5 := Lib.hid (HS.out.has.crash kp)
      go_wp2_with fail
      refine (HS.out.runs.crash (by omega) (by omega) (HS.out.runs.keep HK.out)).mono ?_; rintro e w5 ⟨rfl, hr, -, -⟩
      have R5 := Lib.hid hr
      generalize S.crash kp = S5 at *
      clear hr HS d1
      go_wp2_with fail
      go_loopw [10, 11, 12, 13, 14] (fun jv _ _ _ _ U => ∃ j : Nat, j ≤ i ∧ jv = .int .i64 (j : Int) ∧ Below w5.heap.size w5 U) (fun jv _ _ _ _ _ => i - (intOf jv).toNat)
      case atStart => exact ⟨0, Nat.zero_le _, rfl, Below.refl _ _⟩
      case round =>
        rename World => U
        obtain ⟨j, hji, rfl, hbu⟩ := hrel
        have HBU := Lib.hid hbu
        clear hbu
        have j0 : (0 : Int) ≤ (j : Int) := Int.natCast_nonneg _
        by_cases hlt : j < i
        · have j1 : (j : Int) < (i : Int) := by omega
          have d1 : decide ((j : Int) < (i : Int)) = true := decide_eq_true j1
          have HJ1 : Hid (j + 1 ≤ i) := Lib.hid hlt
          have HJL := Lib.hid hlt
          clear hji
          go_wp2_with fail
          go_loopw [11, 12] (fun wv kv V => ∃ k : Nat, k ≤ i ∧ kv = .int .i64 (k : Int) ∧ wv = .string ((Sf.gT f b k (f j)).getD ⟨#[]⟩) ∧ Below w5.heap.size w5 V) (fun _ kv _ => i - (intOf kv).toNat)
          case atStart => exact ⟨0, Nat.zero_le _, rfl, rfl, HBU.out⟩
          case round =>
            rename World => V
            obtain ⟨k, hki, rfl, rfl, hbv⟩ := hrel
            have HBV := Lib.hid hbv
            clear hbv
            have k0 : (0 : Int) ≤ (k : Int) := Int.natCast_nonneg _
            have HWV := Lib.hid (below_step R5.out.bel HBV.out)
            by_cases hkl : k < i
            · have k1 : (k : Int) < (i : Int) := by omega
              have d2 : decide ((k : Int) < (i : Int)) = true := decide_eq_true k1
              obtain ⟨ad, hAd, x0, -⟩ := HA.out.at_ HWV.out hkl
              subst hAd
              have x0 := x0 (by omega)
              obtain ⟨ad9, hAd, z0, -⟩ := HA.out.at_ HWV.out HJL.out
              cases hAd
              have z0 := z0 (by omega)
              obtain ⟨ad2, hAd, y0, -⟩ := HA2.out.at_ HWV.out hkl
              subst hAd
              have y0 := y0 (by omega)
              rw [Nat.mul_one, show nx1 f k 0 = .string (f k) from rfl] at x0
              rw [Nat.mul_one, show nx1 f j 0 = .string (f j) from rfl] at z0
              rw [Nat.mul_one, show nx1 b k 0 = .string (b k) from rfl] at y0
              have HK1 : Hid (k + 1 ≤ i) := Lib.hid hkl
              have hgs := Sf.gT_succ (b := b) (i := k) ((HG.out j HJL.out).1.ne_tmp (f k))
              have HY : Hid (∀ q, (V.drewN q).cell? (ad2.add k) = some (.string (b k))) := Lib.hid (fun q => cell_keep y0 (below_drewN (Below.refl _ _) q))
              have HBD : Hid (∀ q, Below w5.heap.size w5 (V.drewN q)) := Lib.hid (fun q => below_drewN HBV.out q)
              clear hki hkl y0
              by_cases hfe : f j = f k
              · have HGS : Hid ((Sf.gT f b (k + 1) (f j)).getD ⟨#[]⟩ = b k) := Lib.hid (by rw [hgs, if_pos hfe]; rfl)
                rw [hfe] at z0
                generalize f k = fk at *
                have b0 : (fk.toList == fk.toList) = true := by simp
                clear hgs hfe
                go_wp2_with fail
                go_quiet (fail)
                have y1 := HY.out nq
                go_wp2_with fail
                go_roundw
                case rel => exact ⟨k + 1, HK1.out, by go_num, by rw [HGS.out], HBD.out _⟩
                case measure => simp [intOf]; omega
              · have HGS : Hid (Sf.gT f b (k + 1) (f j) = Sf.gT f b k (f j)) := Lib.hid (by rw [hgs, if_neg hfe])
                have b0 : ((f k).toList == (f j).toList) = false := by rw [str_beq]; exact decide_eq_false (fun e => hfe e.symm)
                clear hgs hfe
                go_wp2_with fail
                go_quiet (fail)
                go_wp2_with fail
                go_roundw
                case rel => exact ⟨k + 1, HK1.out, by go_num, by rw [HGS.out], HBD.out _⟩
                case measure => simp [intOf]; omega
            · have d2 : decide ((k : Int) < (i : Int)) = false := decide_eq_false (by omega)
              obtain rfl : k = i := by omega
              clear hki hkl k0
              obtain ⟨ad, hAd, x0, -⟩ := HA.out.at_ HWV.out HJL.out
              subst hAd
              have x0 := x0 (by omega)
              rw [Nat.mul_one, show nx1 f j 0 = .string (f j) from rfl] at x0
              have hgj := (HG.out j HJL.out).1
              obtain ⟨v, hv⟩ := Option.isSome_iff_exists.1 (Sf.gT_some (f := f) (b := b) (s := f j) k j HJL.out (fun q _ => hgj.ne_tmp (f q)) rfl)
              have HRD := Lib.hid ((R5.out.far HBV.out).read (f j) (Nat.le_trans hgj.hi (by decide)))
              rw [show S5.read (f j) = (v, 0) from Sf.read_some H5.out.dead ((H5.out.at_ (f j)).trans hv)] at HRD
              have hw : (Sf.gT f b k (f j)).getD ⟨#[]⟩ = v := by rw [hv]; rfl
              rw [hw]
              have b0 : (v.toList == v.toList) = true := by simp
              clear hgj hv hw
              generalize f j = fj at *
              go_wp2_with fail
              refine HRD.out.mono ?_; rintro e w6 ⟨rfl, hb6⟩
              have HB6 := Lib.hid (below_step HBV.out hb6)
              clear hb6 HRD x0
              go_wp2_with fail
              go_roundw
              case rel => exact ⟨j + 1, HJ1.out, by go_num, HB6.out⟩
              case measure => simp [intOf]; omega
        · have d1 : decide ((j : Int) < (i : Int)) = false := decide_eq_false (by omega)
          obtain rfl : j = i := by omega
          have R6 := Lib.hid (R5.out.far HBU.out)
          clear hji hlt j0 R5 HBU
          have HLN := Lib.hid (Sf.list_length S5.names)
          go_wp2_with fail
          refine (R6.out.list).mono ?_; rintro e w7 ⟨A7, c7, rfl, -, hb7⟩
          rw [HLN.out]
          have R7 := Lib.hid (R6.out.far hb7)
          have hsz := HSZ.out
          have d2 : decide ((Go.Maps.size S5.names : Int) ≤ (j : Int)) = true := decide_eq_true (by omega)
          have d3 : decide (Go.Maps.size S5.names ≤ j) = true := decide_eq_true hsz
          clear hb7 R6 hsz
          go_wp2_with fail
          go_ret
          exact ⟨rfl, R7.out.bel⟩
set_option maxRecDepth 100000 in
theorem diskTwo_walk {H : Type} {enc : TypeId × Value → H} {r0 r1 r2 : Reach} {b0 b1 b2 : Nat} {v0 v1 v2 : Value} {d0 d1 d2 : DataW H} {p0 p1 p2 : List MemPlace} (w : World)
    (o0 : Value.okWide Try.prog w r0 b0 22 v0) (h0 : DataW.Trod enc Try.prog w 0 (fun _ => true) true 22 v0 d0 p0)
    (o1 : Value.okWide Try.prog w r1 b1 22 v1) (h1 : DataW.Trod enc Try.prog w 0 (fun _ => true) true 22 v1 d1 p1)
    (o2 : Value.okWide Try.prog w r2 b2 23 v2) (h2 : DataW.Trod enc Try.prog w 0 (fun _ => true) true 23 v2 d2 p2) :
    Calls Try.prog 6 #[v0, v1, v2] w fun e w' => e = .returned (.bool true) ∧ Below w.heap.size w w' := by
  obtain ⟨A, n, c, f, rfl, hn, hA, hf⟩ := open_names o0 h0
  obtain ⟨A2, n2, c2, b, rfl, hn2, hA2, hb⟩ := open_names o1 h1
  obtain ⟨A3, c3, k, rfl, hk⟩ := open_keep o2 h2
  exact diskTwo_walk0 w A n c hn f hA hf A2 n2 c2 hn2 b hA2 hb hk
end Go.Proofs.Ytgpmomjdjakklaa
