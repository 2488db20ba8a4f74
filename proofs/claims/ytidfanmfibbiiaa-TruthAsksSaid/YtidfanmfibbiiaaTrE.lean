import Derived.Test.YtidfanmfibbiiaaTrC
import Derived.Laws.StructEq
/-
  Series in a world; what firsts and find come to.
-/
namespace Go.Proofs.Ytidfanmfibbiiaa
open Go.RowKit
/-- where a series lies, and what it is -/
structure SerAt where
  la : Option Addr
  ln : Nat
  lc : Nat
  f : Nat → Lab
  sa : Option Addr
  sn : Nat
  sc : Nat
  s : Nat → Sam
  last : Int
def SerAt.labs (q : SerAt) : List Lab := La.listOf q.f q.ln
def SerAt.ser (q : SerAt) : Tr.Ser (List Lab) := ⟨q.labs, (List.range q.sn).map q.s, q.last⟩
def rx (q : Nat → SerAt) (i j : Nat) : Value := if j = 0 then .slice (q i).la (q i).ln (q i).lc else if j = 1 then .slice (q i).sa (q i).sn (q i).sc else .int .i64 (q i).last
theorem rx_one (q : Nat → SerAt) (i j : Nat) : (rx q i j).oneCell' = true := by
  unfold rx; split
  · rfl
  · split <;> rfl
/-- a series that lies in a world -/
structure SerIn (w : World) (q : SerAt) : Prop where
  labs : LabRow w q.la q.ln q.f
  lnone : q.la = none → q.ln = 0 ∧ q.lc = 0
  lsize : ∀ i, i < q.ln → (q.f i).1.size ≤ 300 ∧ (q.f i).2.size ≤ 300
  lfew : q.ln ≤ 1000
  sams : Row 2 (sx q.s) w q.sa q.sn
  snone : q.sa = none → q.sn = 0 ∧ q.sc = 0
  sfew : q.sn ≤ 1000
theorem SerIn.later {w w2 : World} {q : SerAt} (h : SerIn w q) (hb : Below w.heap.size w w2) : SerIn w2 q := ⟨h.labs.later hb, h.lnone, h.lsize, h.lfew, h.sams.later hb, h.snone, h.sfew⟩
/-- a row of series -/
structure Sers (w : World) (A : Option Addr) (n c : Nat) (q : Nat → SerAt) : Prop where
  row : Row 3 (rx q) w A n
  none : A = none → n = 0 ∧ c = 0
  few : n ≤ 1000
  each : ∀ i, i < n → SerIn w (q i)
theorem Sers.later {w w2 : World} {A : Option Addr} {n c : Nat} {q : Nat → SerAt} (h : Sers w A n c q) (hb : Below w.heap.size w w2) : Sers w2 A n c q := ⟨h.row.later hb, h.none, h.few, fun i hi => (h.each i hi).later hb⟩
def sers (q : Nat → SerAt) (n : Nat) : List (Tr.Ser (List Lab)) := (List.range n).map fun i => (q i).ser
theorem sers_get {q : Nat → SerAt} {n i : Nat} (h : i < n) : (sers q n)[i]? = some (q i).ser := by simp [sers, h]
theorem sers_length (q : Nat → SerAt) (n : Nat) : (sers q n).length = n := by simp [sers]
open Classical in
/-- of the last m of n keys, the place of the first -/
noncomputable def firstK (keys : Nat → Value) (n : Nat) : Nat → Value → Option Value
  | 0, _ => none
  | m + 1, key => if key = keys (n - (m + 1)) then some (.int .i64 ((n - (m + 1) : Nat) : Int)) else firstK keys n m key
theorem firstK_put (keys : Nat → Value) (n m : Nat) : firstK keys n (m + 1) (keys (n - (m + 1))) = some (.int .i64 ((n - (m + 1) : Nat) : Int)) := by rw [firstK, if_pos rfl]
theorem firstK_other (keys : Nat → Value) (n m : Nat) {x : Value} (h : x ≠ keys (n - (m + 1))) : firstK keys n (m + 1) x = firstK keys n m x := by rw [firstK, if_neg h]
theorem firstK_some {keys : Nat → Value} {n : Nat} {key v : Value} : ∀ m, m ≤ n → firstK keys n m key = some v → ∃ j, n - m ≤ j ∧ j < n ∧ v = .int .i64 (j : Int) ∧ ∀ i, n - m ≤ i → i < j → key ≠ keys i
  | 0, _, h => by cases h
  | m + 1, hm, h => by
    rw [firstK] at h
    split at h
    · cases h
      exact ⟨n - (m + 1), Nat.le_refl _, by omega, rfl, fun i h1 h2 => by omega⟩
    · rename_i hne
      obtain ⟨j, h1, h2, h3, h4⟩ := firstK_some m (by omega) h
      refine ⟨j, by omega, h2, h3, fun i hi hj => ?_⟩
      by_cases e : i = n - (m + 1)
      · rw [e]; exact hne
      · exact h4 i (by omega) hj
theorem firstK_none {keys : Nat → Value} {n : Nat} {key : Value} : ∀ m, m ≤ n → firstK keys n m key = none → ∀ i, n - m ≤ i → i < n → key ≠ keys i
  | 0, _, _, i, h1, h2 => by omega
  | m + 1, hm, h, i, h1, h2 => by
    rw [firstK] at h
    split at h
    · cases h
    · rename_i hne
      by_cases e : i = n - (m + 1)
      · rw [e]; exact hne
      · exact firstK_none m (by omega) h i (by omega) h2
def keysOf (q : Nat → SerAt) (i : Nat) : Value := keyV (q i).f (q i).ln
theorem size_max {a : Nat} (h : a ≤ 300) : a ≤ maxLen := by unfold maxLen; omega
theorem zero_int (w : World) : (zeroValue 3).run Try.prog w = .ok (.int .i64 0) w := by kernel_rfl
theorem run_makeMap_room {P : Program} {t k e : TypeId} (ht : P.underlying t = some (.map k e)) (a : Int) (w : World) : (Instr.makeMap t (some (.int .i64 a))).run P w = .ok (.map (some w.heap.size)) (w.alloc (.map #[] 0)) := by
  simp [Instr.makeMap, run_underlying ht, asInt, asIntOf, Result.andThen]
theorem MapIs.later {P : Program} {k : TypeId} {w w2 : World} {b n : Nat} {f : Value → Option Value} (h : MapIs P k w b n f) (hb : Below w.heap.size w w2) : MapIs P k w2 b n f := by
  obtain ⟨es, clock, h0, hr⟩ := h
  exact ⟨es, clock, heap_keep h0 hb, hr⟩
set_option maxRecDepth 100000 in
set_option maxHeartbeats 1000000 in
theorem firsts_any (A : Option Addr) (n c : Nat) (q : Nat → SerAt) (w : World) (hA : Sers w A n c q) :
    Calls Try.prog 33 #[.slice A n c] w fun e w' => ∃ b, e = .returned (.map (some b)) ∧ w.heap.size ≤ b ∧ MapIs Try.prog 100 w' b n (firstK (keysOf q) n n) ∧ Below w.heap.size w w' := by
  have HA := Lib.hid hA
  have hn := hA.few
  have hmk := run_makeMap_room (P := Try.prog) Try.underlying68 (n : Int) w
  have i9 : IntKind.i64.wrap ((n : Int) - 1) = (n : Int) - 1 := IntWalk.i64_in _ (by omega)
  have i8 : wrap64 ((n : Int) - 1) = (n : Int) - 1 := IntWalk.wrap64_in _ (by omega)
  clear hA
  go_enter Try.func33, Try.ntmps33
  go_wp2_with fail
  have HM := Lib.hid (MapIs.made w Try.prog 100)
  have HB0 := Lib.hid ((Below.refl w.heap.size w).alloc (Nat.le_refl _) (.map #[] 0))
  go_loopw [4] (fun i wr => ∃ (m : Nat), m ≤ n ∧ i = .int .i64 ((n : Int) - 1 - m) ∧ MapIs Try.prog 100 wr w.heap.size m (firstK (keysOf q) n m) ∧ Below w.heap.size w wr) (fun i _ => ((intOf i) + 1).toNat)
  case atStart => exact ⟨0, by omega, by simp, HM.out, HB0.out⟩
  case round =>
    obtain ⟨m, hm, rfl, hmap, hb⟩ := hrel
    have HMP := Lib.hid hmap; have HB := Lib.hid hb; clear hmap hb
    by_cases hlt : m < n
    · obtain ⟨k, hk⟩ : ∃ k, k = n - (m + 1) := ⟨_, rfl⟩
      have hkn : k < n := by omega
      have e0 : (n : Int) - 1 - (m : Int) = (k : Int) := by omega
      rw [e0]
      have i1 : (0 : Int) ≤ (k : Int) := by omega
      have i2 : (k : Int) < (n : Int) := by omega
      have d1 : decide ((0 : Int) ≤ (k : Int)) = true := decide_eq_true i1
      have i3 : IntKind.i64.wrap ((k : Int) - 1) = (k : Int) - 1 := IntWalk.i64_in _ (by omega)
      have i4 : wrap64 ((k : Int) - 1) = (k : Int) - 1 := IntWalk.wrap64_in _ (by omega)
      obtain ⟨ad, rfl, cc, -⟩ := HA.out.row.at_ HB.out hkn
      have c0 := cc (by decide)
      clear cc
      have hE := HA.out.each k hkn
      obtain ⟨l, hl⟩ := key_reads (q k).f (q k).ln (fun i hi => ⟨size_max (hE.lsize i hi).1, size_max (hE.lsize i hi).2⟩)
      have hKO := keyOf_any (q k).la (q k).ln (q k).lc hE.lnone (q k).f wr (hE.labs.later HB.out)
      have hput : firstK (keysOf q) n (m + 1) (keyV (q k).f (q k).ln) = some (.int .i64 (k : Int)) := by
        have := firstK_put (keysOf q) n m
        rw [← hk] at this
        exact this
      have hoth : ∀ x, x ≠ keyV (q k).f (q k).ln → firstK (keysOf q) n (m + 1) x = firstK (keysOf q) n m x := fun x hx => firstK_other _ _ _ (by rw [← hk]; exact hx)
      have er : rx q k 0 = .slice (q k).la (q k).ln (q k).lc := rfl
      rw [er] at c0
      have HK := Lib.hid hKO; have HL := Lib.hid hl; have HP := Lib.hid hput; have HO := Lib.hid hoth; have HKK := Lib.hid hk
      clear hE hKO hl hput hoth er e0 hk
      generalize keyV (q k).f (q k).ln = kv at *
      generalize (q k).la = la at *
      generalize (q k).ln = ln at *
      generalize (q k).lc = lc at *
      go_wp2_with fail
      refine HK.out.mono ?_; rintro e w5 ⟨rfl, hb5⟩
      have HM5 := Lib.hid (HMP.out.later hb5)
      have HB5 := Lib.hid (below_step HB.out hb5); clear hb5
      go_wp2_with (at_mapUpdate; go_must (refine wpList_mapUpdate_is _ rfl _ _ _ 68 rfl 100 3 key_law Try.underlying68 w.heap.size m _ rfl HM5.out kv (.int .i64 (k : Int)) l rfl rfl HL.out (firstK (keysOf q) n (m + 1)) HP.out HO.out ?_); intro w6 hm6 hg6 hs6; have HM6 := Lib.hid hm6; have HB6 := Lib.hid (HB5.out.grown hg6 HB5.out.size (fun r e => by cases e; exact Nat.le_refl _)); clear hm6 hg6 hs6)
      go_roundw
      case rel => exact ⟨m + 1, by omega, by congr 1; have := HKK.out; omega, HM6.out, HB6.out⟩
      case measure => simp [intOf]
    · obtain rfl : m = n := by omega
      have d1 : decide ((0 : Int) ≤ (m : Int) - 1 - (m : Int)) = false := by simp; omega
      go_wp2_with fail
      go_ret
      exact ⟨_, rfl, Nat.le_refl _, HMP.out, HB.out⟩
/-- the place that find tells -/
def findI (L : List (Tr.Ser (List Lab))) (x : List Lab) : Int := match Tr.find L x with | some i => (i : Int) | none => -1
theorem findI_none {L : List (Tr.Ser (List Lab))} {x : List Lab} (h : ∀ (i : Nat) (y : Tr.Ser (List Lab)), L[i]? = some y → y.l ≠ x) : findI L x = -1 := by
  unfold findI
  cases hf : Tr.find L x with
  | none => rfl
  | some i =>
    obtain ⟨y, hy, e⟩ := Tr.find_some hf
    exact absurd e (h i y hy)
theorem findI_some {L : List (Tr.Ser (List Lab))} {x : List Lab} {k : Nat} {y : Tr.Ser (List Lab)} (hk : L[k]? = some y) (hy : y.l = x) (h : ∀ (i : Nat) (z : Tr.Ser (List Lab)), i < k → L[i]? = some z → z.l ≠ x) : findI L x = (k : Int) := by
  have : Tr.find L x = some k := by
    unfold Tr.find
    rw [List.findIdx?_eq_some_iff_getElem]
    obtain ⟨hl, e⟩ := List.getElem?_eq_some_iff.1 hk
    refine ⟨hl, by rw [e]; simpa using hy, fun j hj => ?_⟩
    have := h j L[j] hj (List.getElem?_eq_getElem (by omega))
    simpa using this
  unfold findI
  rw [this]
theorem keys_eq {f g : Nat → Lab} {n m : Nat} (h : La.listOf f n = La.listOf g m) : keyV f n = keyV g m := by
  have hn : n = m := by
    have := congrArg List.length h
    simpa [La.listOf] using this
  subst hn
  refine kc_same (fun i hi => ?_)
  rw [← La.at_listOf f n i hi, ← La.at_listOf g n i hi, h]
set_option maxRecDepth 100000 in
set_option maxHeartbeats 1000000 in
theorem find_any (A : Option Addr) (n c : Nat) (q : Nat → SerAt) (b : Nat) (B : Option Addr) (m d : Nat) (hnone : B = none → m = 0 ∧ d = 0) (g : Nat → Lab) (hg : ∀ i, i < m → (g i).1.size ≤ 300 ∧ (g i).2.size ≤ 300) (w : World)
    (hA : Sers w A n c q) (hM : MapIs Try.prog 100 w b n (firstK (keysOf q) n n)) (hB : LabRow w B m g) :
    Calls Try.prog 32 #[.slice A n c, .map (some b), .slice B m d] w fun e w' => e = .returned (.int .i64 (findI (sers q n) (La.listOf g m))) ∧ Below w.heap.size w w' := by
  have hn := hA.few
  obtain ⟨l, hl⟩ := key_reads g m (fun i hi => ⟨size_max (hg i hi).1, size_max (hg i hi).2⟩)
  have hKO := keyOf_any B m d hnone g w hB
  have HA := Lib.hid hA; have HM := Lib.hid hM; have HB := Lib.hid hB; have HK := Lib.hid hKO; have HL := Lib.hid hl
  have HKE := Lib.hid (fun (i : Nat) (h : La.listOf (q i).f (q i).ln = La.listOf g m) => (keys_eq h).symm)
  clear hA hM hB hKO hl hnone hg
  go_enter Try.func32, Try.ntmps32
  go_wp2_with fail
  refine HK.out.mono ?_; rintro e w1 ⟨rfl, hb1⟩
  have HB1 := Lib.hid hb1
  have hM1 := HM.out.later hb1
  clear hb1 HK
  cases hf : firstK (keysOf q) n n (keyV g m) with
  | none =>
    have hlk := hM1.look_none true key_law Try.underlying68 (zero_int w1) HL.out hf
    have HR : Hid (findI (sers q n) (La.listOf g m) = -1) := Lib.hid (findI_none (fun i y hy e => by
      have hi : i < n := by
        rcases Nat.lt_or_ge i n with h | h
        · exact h
        · rw [List.getElem?_eq_none (by rw [sers_length]; exact h)] at hy; cases hy
      rw [sers_get hi] at hy
      cases hy
      exact firstK_none n (Nat.le_refl _) hf i (by omega) hi (HKE.out i e)))
    clear hM1 hf HKE HL
    generalize keyV g m = kv at *
    go_wp2_with fail
    go_loopw [7] (fun i wr => i = .int .i64 0 ∧ wr = w1) (fun _ _ => 0)
    case atStart => exact ⟨rfl, rfl⟩
    case round =>
      obtain ⟨rfl, rfl⟩ := hrel
      go_wp2_with fail
      go_ret
      exact ⟨by rw [HR.out]; rfl, HB1.out⟩
  | some v =>
    obtain ⟨j, hj1, hj2, rfl, hj4⟩ := firstK_some n (Nat.le_refl _) hf
    have hlk := hM1.look_some true key_law Try.underlying68 HL.out hf
    have HJ : Hid (∀ i, i < j → (q i).labs ≠ La.listOf g m) := Lib.hid (fun i hi e => hj4 i (by omega) hi (HKE.out i e))
    clear hM1 hf HL hj4 hj1 HKE
    generalize keyV g m = kv at *
    go_wp2_with fail
    go_loopw [7] (fun i wr => ∃ (k : Nat), k ≤ n ∧ i = .int .i64 k ∧ (∀ i, i < k → (q i).labs ≠ La.listOf g m) ∧ Below w.heap.size w wr) (fun i _ => n - (intOf i).toNat)
    case atStart => exact ⟨j, by omega, rfl, HJ.out, HB1.out⟩
    case round =>
      obtain ⟨k, hk, rfl, hall, hb⟩ := hrel
      have HL := Lib.hid hall; have HBR := Lib.hid hb; clear hall hb
      by_cases hlt : k < n
      · have i1 : (0 : Int) ≤ (k : Int) := by omega
        have i2 : (k : Int) < (n : Int) := by omega
        have d1 : decide ((k : Int) < (n : Int)) = true := decide_eq_true i2
        obtain ⟨ad, rfl, cc, -⟩ := HA.out.row.at_ HBR.out hlt
        have c0 := cc (by decide)
        clear cc
        have er : rx q k 0 = .slice (q k).la (q k).ln (q k).lc := rfl
        rw [er] at c0
        have hE := HA.out.each k hlt
        have hs := Same_any (q k).la B (q k).ln m (q k).lc d (Nat.le_trans hE.lfew (by unfold maxLen; omega)) (q k).f g wr (hE.labs.later HBR.out) (HB.out.later HBR.out)
        have hiff := La.same_iff (q k).f g (q k).ln m
        have HNO : Hid ((decide ((q k).ln = m) && La.same (q k).f g (q k).ln) = false → ∀ i, i < k + 1 → (q i).labs ≠ La.listOf g m) := Lib.hid (fun h i hi => by
          by_cases e : i = k
          · subst e
            intro e2
            rw [hiff.2 e2] at h
            cases h
          · exact HL.out i (by omega))
        have HYES : Hid ((decide ((q k).ln = m) && La.same (q k).f g (q k).ln) = true → findI (sers q n) (La.listOf g m) = (k : Int)) := Lib.hid (fun h => findI_some (sers_get hlt) (hiff.1 h) (fun i z hi hz => by
          rw [sers_get (by omega)] at hz
          cases hz
          exact HL.out i hi))
        have HS := Lib.hid hs
        clear hE hs hiff er HL
        generalize (decide ((q k).ln = m) && La.same (q k).f g (q k).ln) = r at *
        generalize (q k).la = la at *
        generalize (q k).ln = ln at *
        generalize (q k).lc = lc at *
        go_wp2_with fail
        refine HS.out.mono ?_; rintro e w5 ⟨rfl, hb5⟩
        have HB5 := Lib.hid (below_step HBR.out hb5); clear hb5
        cases r
        · go_wp2_with fail
          go_roundw
          case rel => exact ⟨k + 1, by omega, by go_num, HNO.out (by simp), HB5.out⟩
          case measure => simp [intOf]; omega
        · go_wp2_with fail
          go_ret
          exact ⟨by rw [HYES.out (by simp)]; rfl, HB5.out⟩
      · obtain rfl : k = n := by omega
        have d1 : decide ((k : Int) < (k : Int)) = false := by simp
        have HR : Hid (findI (sers q k) (La.listOf g m) = -1) := Lib.hid (findI_none (fun i y hy e => by
          have hi : i < k := by
            rcases Nat.lt_or_ge i k with h | h
            · exact h
            · rw [List.getElem?_eq_none (by rw [sers_length]; exact h)] at hy; cases hy
          rw [sers_get hi] at hy
          cases hy
          exact HL.out i hi e))
        go_wp2_with fail
        go_ret
        exact ⟨by rw [HR.out]; rfl, HBR.out⟩
end Go.Proofs.Ytidfanmfibbiiaa
/-
  What Contains and behind come to.
-/
namespace Go.Proofs.Ytidfanmfibbiiaa
open Go.RowKit
theorem run_part_i {P : Program} (w : World) (e : TypeId) (k : IntKind) (he : P.underlying e = some (.int k)) (cs : Array Value) (j : Nat) (v : Value) (hv : cs[j]? = some v) : (part e cs j).run P w = .ok v w := by
  have hagg : (isAgg e).run P w = .ok false w := by
    unfold isAgg
    rw [Sem.run_bind, run_underlying he w]
    simp
  simp [part, Sem.run_bind, hagg, hv]
set_option maxRecDepth 100000 in
theorem sam_parts : Try.prog.underlying 51 = some (.struct (Try.prog.fieldsOf 51)) := by kernel_rfl
set_option maxRecDepth 100000 in
theorem run_eq_sam (w : World) (x y x2 y2 : Int) (b : Bool) (hb : b = (decide (x = x2) && decide (y = y2))) : (Op.equalIn 10000 51 (.agg #[.int .i64 x, .int .u64 y]) (.agg #[.int .i64 x2, .int .u64 y2])).run Try.prog w = .ok b w := by
  rw [run_equalIn_struct w 9999 51 _ _ sam_parts (by kernel_rfl)]
  have hf : (Try.prog.fieldsOf 51).toList = [⟨"T", 2, 0, false, "", "", 0⟩, ⟨"V", 37, 1, false, "", "", 8⟩] := by kernel_rfl
  rw [hf]
  have p0 := run_part_i (P := Try.prog) w 2 _ Try.underlying2 #[.int .i64 x, .int .u64 y] 0 (.int .i64 x) rfl
  have p1 := run_part_i (P := Try.prog) w 37 _ Try.underlying37 #[.int .i64 x, .int .u64 y] 1 (.int .u64 y) rfl
  have q0 := run_part_i (P := Try.prog) w 2 _ Try.underlying2 #[.int .i64 x2, .int .u64 y2] 0 (.int .i64 x2) rfl
  have q1 := run_part_i (P := Try.prog) w 37 _ Try.underlying37 #[.int .i64 x2, .int .u64 y2] 1 (.int .u64 y2) rfl
  have e0 := run_equalIn_int (P := Try.prog) w 9998 2 .i64 .i64 x x2 Try.underlying2
  have e1 := run_equalIn_int (P := Try.prog) w 9998 37 .u64 .u64 y y2 Try.underlying37
  simp only [Op.eqFields, ne_eq, String.reduceEq, not_false_eq_true, if_true, Sem.run_bind, p0, q0, e0, Result.andThen_ok]
  subst hb
  by_cases hx : x = x2
  · subst hx
    simp [Sem.run_bind, p1, q1, e1]
    by_cases hy : y = y2 <;> simp [hy]
  · have hx2 : (x == x2) = false := by simpa using hx
    simp [hx, hx2]
theorem sam_mem {s : Nat → Sam} {n : Nat} {x : Sam} : x ∈ (List.range n).map s ↔ ∃ i, i < n ∧ s i = x := by
  rw [List.mem_map]
  constructor
  · rintro ⟨i, hi, e⟩
    exact ⟨i, List.mem_range.1 hi, e⟩
  · rintro ⟨i, hi, e⟩
    exact ⟨i, List.mem_range.2 hi, e⟩
set_option maxRecDepth 100000 in
set_option maxHeartbeats 1000000 in
theorem Index_any (A : Option Addr) (n c : Nat) (hn : n ≤ 1000) (s : Nat → Sam) (x : Sam) (w : World) (hA : Row 2 (sx s) w A n) :
    Calls Try.prog 82 #[.slice A n c, .agg #[.int .i64 x.t, .int .u64 x.v]] w fun e w' => ∃ j : Int, e = .returned (.int .i64 j) ∧ decide (0 ≤ j) = decide (x ∈ (List.range n).map s) ∧ Below w.heap.size w w' := by
  have HA := Lib.hid (hA.later ((Below.refl w.heap.size w).alloc (Nat.le_refl _) (.cells #[.int .i64 x.t, .int .u64 x.v] 51)))
  have HB := Lib.hid ((Below.refl w.heap.size w).alloc (Nat.le_refl _) (.cells #[.int .i64 x.t, .int .u64 x.v] 51))
  obtain ⟨w1, hw1⟩ : ∃ w1, w1 = w.alloc (.cells #[.int .i64 x.t, .int .u64 x.v] 51) := ⟨_, rfl⟩
  have hc : w1.heap[w.heap.size]? = some (.cells #[.int .i64 x.t, .int .u64 x.v] 51 (0, 0)) := by rw [hw1]; exact heap_alloc_new w _
  have hz : w.heap.size < w1.heap.size := by rw [hw1]; simp
  have HC := Lib.hid hc; have HZ := Lib.hid hz
  rw [← hw1] at HA HB
  have heg : Try.prog.eqGuardType Try.prog.depth 51 = false := by kernel_rfl
  clear hA hc hz
  go_enter Try.func82, Try.ntmps82
  go_wp2_with fail
  rw [← hw1]
  clear hw1
  go_loopw [5, 8] (fun _ i wr => ∃ k : Nat, k ≤ n ∧ i = .int .i64 k ∧ (∀ i, i < k → s i ≠ x) ∧ DrewOf w1 wr) (fun _ i _ => n - (intOf i).toNat)
  case atStart => exact ⟨0, by omega, rfl, fun i hi => by omega, ⟨0, rfl⟩⟩
  case round =>
    obtain ⟨k, hk, rfl, hall, q, rfl⟩ := hrel
    have HL := Lib.hid hall; clear hall
    by_cases hlt : k < n
    · obtain ⟨ad, rfl, c0, c1⟩ := HA.out.at_ (Below.refl _ _) hlt
      have x0 := c0 (by decide); have x1 := c1 1 (by decide) (by decide)
      have v0 : sx s k 0 = .int .i64 (s k).t := rfl
      have v1 : sx s k 1 = .int .u64 (s k).v := rfl
      rw [v0] at x0; rw [v1] at x1
      have z0 : w1.cell? ⟨w.heap.size, 0, none⟩ = some (.int .i64 x.t) := cell_of_row _ _ _ _ _ _ HC.out
      have z1 : w1.cell? ⟨w.heap.size, 1, none⟩ = some (.int .u64 x.v) := cell_of_row _ _ _ _ _ _ HC.out
      have i1 : (k : Int) < (n : Int) := by omega
      have i0 : (0 : Int) ≤ (k : Int) := by omega
      have d1 : decide ((k : Int) < (n : Int)) = true := decide_eq_true i1
      clear c0 c1 v0 v1
      by_cases he : s k = x
      · have hel := fun W => run_eq_sam W x.t x.v (s k).t (s k).v true (by rw [he]; simp)
        have HR : Hid (decide (x ∈ (List.range n).map s) = true) := Lib.hid (decide_eq_true (sam_mem.2 ⟨k, hlt, he⟩))
        clear he HL
        generalize (s k).t = t at *
        generalize (s k).v = u at *
        go_wp2_with fail
        go_quiet (fail)
        go_wp2_with fail
        go_ret
        exact ⟨(k : Int), rfl, by rw [HR.out]; exact decide_eq_true i0, HB.out.grown (DrewOf.grown ⟨_, World.drewN_drewN _ _ _⟩ none) HB.out.size (fun r (e : none = some r) => by cases e)⟩
      · have hel := fun W => run_eq_sam W x.t x.v (s k).t (s k).v false (by
          rcases x with ⟨xt, xv⟩
          rcases hs : s k with ⟨a, b⟩
          rw [hs] at he
          simp only [Sam.mk.injEq, not_and] at he
          by_cases h1 : xt = a
          · subst h1
            have := he rfl
            simp only [decide_true, Bool.true_and]
            exact (decide_eq_false (fun h => this h.symm)).symm
          · simp [h1])
        have HN : Hid (∀ i, i < k + 1 → s i ≠ x) := Lib.hid (fun i hi => by
          by_cases e : i = k
          · rw [e]; exact he
          · exact HL.out i (by omega))
        clear he HL
        generalize (s k).t = t at *
        generalize (s k).v = u at *
        go_wp2_with fail
        go_quiet (fail)
        go_wp2_with fail
        go_roundw
        case rel => exact ⟨k + 1, by omega, by go_num, HN.out, _, rfl⟩
        case measure => simp [intOf]; omega
    · obtain rfl : k = n := by omega
      have d1 : decide ((k : Int) < (k : Int)) = false := by simp
      have HR : Hid (decide (x ∈ (List.range k).map s) = false) := Lib.hid (decide_eq_false (fun h => by
        obtain ⟨i, hi, e⟩ := sam_mem.1 h
        exact HL.out i hi e))
      go_wp2_with fail
      go_ret
      exact ⟨-1, rfl, by rw [HR.out]; rfl, HB.out.grown (DrewOf.grown ⟨q, rfl⟩ none) HB.out.size (fun r e => by cases e)⟩
set_option maxRecDepth 100000 in
theorem Contains_any (A : Option Addr) (n c : Nat) (hn : n ≤ 1000) (s : Nat → Sam) (x : Sam) (w : World) (hA : Row 2 (sx s) w A n) :
    Calls Try.prog 69 #[.slice A n c, .agg #[.int .i64 x.t, .int .u64 x.v]] w fun e w' => e = .returned (.bool (decide (x ∈ (List.range n).map s))) ∧ Below w.heap.size w w' := by
  have hb1 := (Below.refl w.heap.size w).alloc (Nat.le_refl _) (.cells #[.int .i64 x.t, .int .u64 x.v] 51)
  have HI := Lib.hid (Index_any A n c hn s x _ (hA.later hb1))
  have HB := Lib.hid hb1
  clear hA hb1
  generalize decide (x ∈ (List.range n).map s) = r at *
  go_enter Try.func69, Try.ntmps69
  go_wp2_with fail
  refine HI.out.mono ?_; rintro e w2 ⟨j, rfl, hj, hb2⟩
  have HB2 := Lib.hid (below_step HB.out hb2); clear hb2
  go_wp2_with fail
  go_ret
  exact ⟨by rw [← hj]; rfl, HB2.out⟩
/-- whether a sample may be behind a series' -/
def behindE (q : SerAt) (t v : Int) : Int := if t < q.last then 4 else if t = q.last then (if (⟨t, v⟩ : Sam) ∈ (List.range q.sn).map q.s then 0 else 5) else if 200 ≤ q.sn then 7 else 0
set_option maxRecDepth 100000 in
set_option maxHeartbeats 1000000 in
theorem behind_any (q : SerAt) (t v : Int) (w : World) (hq : SerIn w q) :
    Calls Try.prog 54 #[.agg #[.slice q.la q.ln q.lc, .slice q.sa q.sn q.sc, .int .i64 q.last], .int .i64 t, .int .u64 v] w fun e w' => e = .returned (.int .i64 (behindE q t v)) ∧ Below w.heap.size w w' := by
  have hb1 := (Below.refl w.heap.size w).alloc (Nat.le_refl _) (.cells #[.slice q.la q.ln q.lc, .slice q.sa q.sn q.sc, .int .i64 q.last] 48)
  have HI := Lib.hid (Contains_any q.sa q.sn q.sc hq.sfew q.s ⟨t, v⟩ _ (hq.sams.later hb1))
  have HB := Lib.hid hb1
  have hE : behindE q t v = if t < q.last then 4 else if t = q.last then (if (⟨t, v⟩ : Sam) ∈ (List.range q.sn).map q.s then 0 else 5) else if 200 ≤ q.sn then 7 else 0 := rfl
  have HE := Lib.hid hE
  clear hq hb1 hE
  generalize behindE q t v = r at *
  by_cases h1 : t < q.last
  · have d1 : decide (t < q.last) = true := decide_eq_true h1
    have hr := HE.out
    rw [if_pos h1] at hr
    have HR := Lib.hid hr; clear hr HE HI h1
    go_enter Try.func54, Try.ntmps54
    go_wp2_with fail
    go_ret
    exact ⟨by rw [HR.out]; rfl, HB.out⟩
  · have d1 : decide (t < q.last) = false := decide_eq_false h1
    by_cases h2 : t = q.last
    · have b1 : (t == q.last) = true := by simpa using h2
      by_cases h3 : (⟨t, v⟩ : Sam) ∈ (List.range q.sn).map q.s
      · have hr := HE.out
        rw [if_neg h1, if_pos h2, if_pos h3] at hr
        have HR := Lib.hid hr; clear hr HE
        have HC := Lib.hid HI.out
        rw [decide_eq_true h3] at HC
        clear h1 h2 h3 HI
        go_enter Try.func54, Try.ntmps54
        go_wp2_with fail
        refine HC.out.mono ?_; rintro e w2 ⟨rfl, hb2⟩
        have HB2 := Lib.hid (below_step HB.out hb2); clear hb2
        go_wp2_with fail
        go_ret
        exact ⟨by rw [HR.out]; rfl, HB2.out⟩
      · have hr := HE.out
        rw [if_neg h1, if_pos h2, if_neg h3] at hr
        have HR := Lib.hid hr; clear hr HE
        have HC := Lib.hid HI.out
        rw [decide_eq_false h3] at HC
        have HD := Lib.hid (fun W (hb : Below w.heap.size w W) => hb)
        clear h1 h2 h3 HI
        have HX : Hid ((w.alloc (.cells #[.slice q.la q.ln q.lc, .slice q.sa q.sn q.sc, .int .i64 q.last] 48)).heap[w.heap.size]? = some (.cells #[.slice q.la q.ln q.lc, .slice q.sa q.sn q.sc, .int .i64 q.last] 48 (0, 0))) := Lib.hid (heap_alloc_new w _)
        clear HD
        go_enter Try.func54, Try.ntmps54
        go_wp2_with fail
        refine HC.out.mono ?_; rintro e w2 ⟨rfl, hb2⟩
        have hX2 := heap_keep HX.out hb2
        have z2 : w2.cell? ⟨w.heap.size, 2, none⟩ = some (.int .i64 q.last) := cell_of_row _ _ _ _ _ _ hX2
        have HB2 := Lib.hid (below_step HB.out hb2); clear hb2 hX2
        go_wp2_with fail
        go_ret
        exact ⟨by rw [HR.out]; rfl, HB2.out⟩
    · have b1 : (t == q.last) = false := by simpa using h2
      have hr := HE.out
      rw [if_neg h1, if_neg h2] at hr
      clear HI HE h1 h2
      by_cases h3 : 200 ≤ q.sn
      · rw [if_pos h3] at hr
        have HR := Lib.hid hr; clear hr
        have d3 : decide ((200 : Int) ≤ (q.sn : Int)) = true := decide_eq_true (by omega)
        clear h3
        go_enter Try.func54, Try.ntmps54
        go_wp2_with fail
        go_ret
        exact ⟨by rw [HR.out]; rfl, HB.out⟩
      · rw [if_neg h3] at hr
        have HR := Lib.hid hr; clear hr
        have d3 : decide ((200 : Int) ≤ (q.sn : Int)) = false := decide_eq_false (by omega)
        clear h3
        go_enter Try.func54, Try.ntmps54
        go_wp2_with fail
        go_ret
        exact ⟨by rw [HR.out]; rfl, HB.out⟩
end Go.Proofs.Ytidfanmfibbiiaa
