/-
  DiskSweeps: the walk.
-/
import Derived.Test.YtgpmomjdjakklaaDkR
import Derived.BigQuiet
namespace Go.Proofs.Ytgpmomjdjakklaa
open Go.RowKit Go.Maps
namespace Sf
def someB : ByteArray := ⟨#[115, 111, 109, 101]⟩
theorem create_no {S : St} {s : ByteArray} {y : Nat} (hf : S.fuse ≠ 0) (h : (S.create s y).2 ≠ 0) : (S.create s y).1 = S := by
  unfold St.create at h ⊢
  split
  · rfl
  rename_i h1
  rw [if_neg h1] at h
  split
  · rfl
  rename_i h2
  rw [if_neg h2] at h
  split
  · rfl
  rename_i h3
  rw [if_neg h3] at h
  split
  · rfl
  rename_i h4
  rw [if_neg h4] at h
  unfold St.nameDo at h
  rw [if_neg (show ¬ (S.file y file0).fuse = 0 from hf)] at h
  exact absurd rfl h
theorem create_did {S : St} {s : ByteArray} {y : Nat} (hd : S.dead = false) (h : (S.create s y).2 = 0) : isName s = true ∧ look S.names s = none ∧ Go.Maps.size S.names < 64 := by
  unfold St.create at h
  rw [hd, if_neg (by decide)] at h
  split at h
  · cases h
  rename_i h2
  split at h
  · cases h
  rename_i h3
  split at h
  · cases h
  rename_i h4
  exact ⟨by simpa using h2, by simpa using h3, by omega⟩
/-- files that have all the same bytes -/
structure Some4 (S : St) : Prop where
  dead : S.dead = false
  fuse : S.fuse = -1
  room : S.room = 1000
  all : ∀ s x, look S.names s = some x → (S.F x).bytes = someB
theorem some4_total {S : St} (h : Some4 S) : S.total ≤ Go.Maps.size S.names * 4 := by
  have h1 := tot_le (S := S) (d := S.names) (B := 4) (fun k => by
    unfold szOf
    split
    · rename_i x hx
      rw [h.all _ x hx]
      exact Nat.le_refl 4
    · omega) (strKeys S.names)
  rwa [length_strKeys] at h1
/-- one more -/
theorem some4_more {B N : Nat} {S : St} (hok : StOk B N S) (hk : KS S.names) (h : Some4 S) {s : ByteArray} {y : Nat} (hy : ¬ live S.synced S.chg y) (hz : Go.Maps.size S.names ≤ 10) (hc : (S.create s y).2 = 0) :
    Some4 ((S.create s y).1.append s someB).1 ∧ Go.Maps.size ((S.create s y).1.append s someB).1.names ≤ Go.Maps.size S.names + 1 := by
  obtain ⟨c1, c2, c3⟩ := create_did h.dead hc
  have hf0 : S.fuse ≠ 0 := by rw [h.fuse]; decide
  have hyl : ∀ t, look S.names t ≠ some y := fun t ht => hy (hok.lives ht)
  rw [create_yes y h.dead c1 c2 c3 hf0]
  obtain ⟨S2, hS2⟩ : ∃ S2, S2 = (S.file y file0).tick.naming (.cre s y) := ⟨_, rfl⟩
  show Some4 (((S.file y file0).tick.naming (.cre s y)).append s someB).1 ∧ Go.Maps.size (((S.file y file0).tick.naming (.cre s y)).append s someB).1.names ≤ _
  rw [← hS2]
  have n2 : S2.names = S.names.put (key s) (Sf.hd y) := by rw [hS2]; rfl
  have l2 : ∀ t, look S2.names t = if t = s then some y else look S.names t := fun t => by
    rw [n2]
    split
    · rename_i e; rw [e]; exact look_put_same hok.nice.tidy.isMap s y
    · rename_i e; exact look_put_other e _
  have d2 : S2.dead = false := by rw [hS2]; exact h.dead
  have r2 : S2.room = 1000 := by rw [hS2]; exact h.room
  have F2 : S2.F y = file0 := by rw [hS2]; exact if_pos rfl
  have F2' : ∀ x, x ≠ y → S2.F x = S.F x := fun x hx => by rw [hS2]; exact if_neg hx
  have f2 : S2.fuse = -1 := by rw [hS2]; exact tick_fuse (S := S) h.fuse
  have ni2 : Nice S2.names := by
    rw [n2]
    exact nice_cre (s := s) hok.nice (by unfold isName at c1; simp at c1; omega) hyl c3
  have ks2 : KS S2.names := by rw [n2]; exact hk.put s _
  have z2 : Go.Maps.size S2.names ≤ Go.Maps.size S.names + 1 := by
    rw [n2, size_put hok.nice.tidy]
    split <;> omega
  have t2 : S2.total = S.total := by
    have := tot_but hok.nice hk ni2 ks2 s (fun t ht => by rw [l2, if_neg ht]) (fun t x _ hx => by rw [F2' x (fun e => hyl t (by rw [← e]; exact hx))])
    rw [szOf_at, szOf_at, c2, l2, if_pos rfl] at this
    simp only [F2] at this
    have z0 : file0.bytes.size = 0 := rfl
    omega
  clear hS2
  have lt2 : look S2.names s = some y := by rw [l2, if_pos rfl]
  have ht := some4_total h
  have hz4 : someB.size = 4 := rfl
  rw [append_yes (b := someB) d2 lt2 (by rw [t2, r2, hz4]; omega) (by rw [f2]; decide)]
  refine ⟨⟨d2, tick_fuse f2, r2, fun t x hx => ?_⟩, z2⟩
  have hx2 : look S2.names t = some x := hx
  by_cases e : x = y
  · rw [e]
    show ((S2.tick.file y ((S2.F y).change (.app someB))).F y).bytes = someB
    rw [file_same, F2]
    rfl
  · show ((S2.tick.file y ((S2.F y).change (.app someB))).F x).bytes = someB
    rw [file_other e]
    show (S2.F x).bytes = someB
    rw [F2' x e]
    rw [l2] at hx2
    split at hx2
    · exact absurd (Option.some.inj hx2).symm e
    · exact h.all t x hx2
/-- a sweep of a living machine -/
theorem sweep_is {B N : Nat} {S : St} (hok : StOk B N S) (hk : KS S.names) (hd : S.dead = false) (hf : S.fuse = -1) (keep : List (List UInt8)) :
    ∃ T, S.sweep keep = (T, ((list S.names).filter fun k => decide (k ∉ keep)).length, 0) ∧ T.dead = false ∧ T.fuse = -1 ∧ T.F = S.F ∧ (∀ s, look T.names s = if s.data.toList ∈ list S.names ∧ s.data.toList ∉ keep then none else look S.names s) ∧ (((list S.names).filter fun k => decide (k ∉ keep)).length = 0 → T = S) := by
  obtain ⟨T, h1, h2, h3, h4, h5, h6⟩ := sweep_to keep (list S.names) S 0 hd hf (list_nodup hok.nice hk) (fun k hk2 => (mem_list_iff hok.nice hk k).1 hk2)
  rw [Nat.zero_add] at h1
  unfold St.sweep
  rw [h1]
  by_cases h0 : ((list S.names).filter fun k => decide (k ∉ keep)).length = 0
  · refine ⟨T, ?_, h2, h3, h4, h5, h6⟩
    show (if (0 : Int) = 0 then (if ((list S.names).filter fun k => decide (k ∉ keep)).length = 0 then _ else _) else _) = _
    rw [if_pos rfl, if_pos h0, h0]
  · refine ⟨T.tick.dir, ?_, h2, tick_fuse h3, h4, h5, fun h => absurd h h0⟩
    show (if (0 : Int) = 0 then (if ((list S.names).filter fun k => decide (k ∉ keep)).length = 0 then _ else _) else _) = _
    rw [if_pos rfl, if_neg h0, dir_yes h2 (by rw [h3]; decide)]
theorem filter_none_of {keep l : List (List UInt8)} : ((l.filter fun k => decide (k ∈ keep)).filter fun k => decide (k ∉ keep)).length = 0 := by
  rw [List.filter_filter]
  have : (l.filter fun a => decide (a ∉ keep) && decide (a ∈ keep)) = [] := by
    rw [List.filter_eq_nil_iff]
    intro a _ h
    simp at h
  rw [this]
  rfl
theorem filter_both (keep : List (List UInt8)) : ∀ l : List (List UInt8), (l.filter fun k => decide (k ∉ keep)).length + (l.filter fun k => decide (k ∈ keep)).length = l.length
  | [] => rfl
  | a :: l => by
    have ih := filter_both keep l
    by_cases h : a ∈ keep
    · rw [List.filter_cons_of_neg (by simpa using h), List.filter_cons_of_pos (by simpa using h), List.length_cons, List.length_cons]
      omega
    · rw [List.filter_cons_of_pos (by simpa using h), List.filter_cons_of_neg (by simpa using h), List.length_cons, List.length_cons]
      omega
/-- how many of the first are kept -/
def kq (keep l : List (List UInt8)) (i : Nat) : Nat := ((l.take i).filter fun k => decide (k ∈ keep)).length
theorem kq_succ {keep l : List (List UInt8)} {i : Nat} (h : i < l.length) : kq keep l (i + 1) = kq keep l i + (if l.getD i [] ∈ keep then 1 else 0) := by
  unfold kq
  rw [List.take_succ_eq_append_getElem h, List.filter_append, List.length_append]
  have e : l.getD i [] = l[i] := by simp [List.getD, h]
  rw [e]
  by_cases hk : l[i] ∈ keep <;> simp [hk]
theorem kq_at {keep : List (List UInt8)} : ∀ {l : List (List UInt8)} {i : Nat}, i < l.length → l.getD i [] ∈ keep → (l.filter fun k => decide (k ∈ keep)).getD (kq keep l i) [] = l.getD i [] ∧ kq keep l i < (l.filter fun k => decide (k ∈ keep)).length
  | [], i, h, _ => absurd h (Nat.not_lt_zero i)
  | a :: l, 0, _, h => by
    have h2 : a ∈ keep := h
    rw [List.filter_cons_of_pos (by simpa using h2)]
    exact ⟨rfl, by simp [kq]⟩
  | a :: l, i + 1, h, h2 => by
    have h3 : l.getD i [] ∈ keep := by simpa [List.getD] using h2
    obtain ⟨i1, i2⟩ := kq_at (l := l) (i := i) (by simpa using h) h3
    have e : (a :: l).getD (i + 1) [] = l.getD i [] := by simp [List.getD]
    rw [e]
    have ek : kq keep (a :: l) (i + 1) = kq keep l i + (if a ∈ keep then 1 else 0) := by
      unfold kq
      rw [List.take_succ_cons]
      by_cases hk : a ∈ keep
      · rw [List.filter_cons_of_pos (by simpa using hk), List.length_cons, if_pos hk]
      · rw [List.filter_cons_of_neg (by simpa using hk), if_neg hk]; rfl
    rw [ek]
    by_cases hk : a ∈ keep
    · rw [List.filter_cons_of_pos (by simpa using hk), if_pos hk, List.length_cons]
      exact ⟨by simpa [List.getD] using i1, by omega⟩
    · rw [List.filter_cons_of_neg (by simpa using hk), if_neg hk]
      exact ⟨by simpa using i1, by omega⟩
theorem kq_end (keep l : List (List UInt8)) : kq keep l l.length = (l.filter fun k => decide (k ∈ keep)).length := by unfold kq; rw [List.take_length]
end Sf
theorem some_list (s : ByteArray) : (s.toList == [115, 111, 109, 101]) = decide (s = Sf.someB) := by
  have e : (⟨#[115, 111, 109, 101]⟩ : ByteArray).toList = [115, 111, 109, 101] := by rw [ByteArray.toList_eq]
  rw [← e]
  exact str_beq s Sf.someB
set_option maxRecDepth 100000 in
set_option maxHeartbeats 8000000 in
theorem diskSweeps_walk0 (W : World) (A : Option Addr) (n c : Nat) (f : Nat → ByteArray) (hA : Row 1 (nx1 f) W A n) (hf : ∀ i, i < n → (f i).size ≤ maxLen) (A2 : Option Addr) (n2 c2 : Nat) (b : Nat → ByteArray) (hA2 : Row 1 (nx1 b) W A2 n2) :
    Calls Try.prog 5 #[.slice A n c, .slice A2 n2 c2] W fun e w' => e = .returned (.bool true) ∧ Below W.heap.size W w' := by
  have HA := Lib.hid hA; have HA2 := Lib.hid hA2
  have HF := Lib.hid hf
  clear hA hA2 hf
  go_enter Try.func5, Try.ntmps5
  go_wp2_with fail
  refine (works_any W).mono ?_; rintro e w1 ⟨rfl, hb1⟩
  have HB1 := Lib.hid hb1; clear hb1
  go_wp2_with fail
  refine (runs_new HB1.out 1000 (by decide)).mono ?_; rintro e w2 ⟨fb, rfl, hr, hb2⟩
  have R2 := Lib.hid hr; clear hr hb2
  obtain ⟨base, hbase⟩ : ∃ base, base = w1.heap.size := ⟨_, rfl⟩
  rw [← hbase] at R2
  clear hbase
  by_cases hn10 : 10 < n
  · have d1 : decide ((10 : Int) < (n : Int)) = true := decide_eq_true (by omega)
    have d2 : decide (10 < n) = true := decide_eq_true hn10
    go_wp2_with fail
    go_ret
    exact ⟨rfl, R2.out.bel⟩
  have d1 : decide ((10 : Int) < (n : Int)) = false := decide_eq_false (by omega)
  have d2 : decide (10 < n) = false := decide_eq_false hn10
  by_cases hk10 : 10 < n2
  · have d3 : decide ((10 : Int) < (n2 : Int)) = true := decide_eq_true (by omega)
    have d4 : decide (10 < n2) = true := decide_eq_true hk10
    go_wp2_with fail
    go_ret
    exact ⟨rfl, R2.out.bel⟩
  have d3 : decide ((10 : Int) < (n2 : Int)) = false := decide_eq_false (by omega)
  have d4 : decide (10 < n2) = false := decide_eq_false hk10
  go_wp2_with fail
  clear d1 d2 d3 d4
  have H2 : Hid (Sf.Some4 (Sf.St.new 1000) ∧ Go.Maps.size (Sf.St.new 1000).names ≤ 0) := Lib.hid ⟨⟨rfl, rfl, rfl, fun s x hx => by rw [show (Sf.St.new 1000).names = .map [] from rfl, Sf.look_empty] at hx; cases hx⟩, Nat.le_refl 0⟩
  have HN := Lib.hid (And.intro hn10 hk10)
  clear HB1
  go_loopw [7] (fun iv wr => ∃ (i : Nat) (S : Sf.St), i ≤ n ∧ iv = .int .i64 (i : Int) ∧ Runs W base fb (300 * i) (2 * i) S wr ∧ Sf.Some4 S ∧ Go.Maps.size S.names ≤ i) (fun iv _ => n - (intOf iv).toNat)
  case atStart => exact ⟨0, _, Nat.zero_le _, rfl, R2.out, H2.out.1, H2.out.2⟩
  case round =>
    obtain ⟨i, S, hin, rfl, hr, hs, hz⟩ := hrel
    have HR := Lib.hid hr; have HS := Lib.hid hs; have HZ := Lib.hid hz
    clear hr hs hz R2 H2
    have i0 : (0 : Int) ≤ (i : Int) := Int.natCast_nonneg _
    by_cases hlt : i < n
    · have i1 : (i : Int) < (n : Int) := by omega
      have d1 : decide ((i : Int) < (n : Int)) = true := decide_eq_true i1
      obtain ⟨ad, hAd, x0, -⟩ := HA.out.at_ HR.out.bel hlt
      subst hAd
      have x0 := x0 (by omega)
      rw [Nat.mul_one, show nx1 f i 0 = .string (f i) from rfl] at x0
      have HI1 : Hid (i + 1 ≤ n) := Lib.hid hlt
      have HLT := Lib.hid hlt
      have HI10 : Hid (i ≤ 10) := Lib.hid (by have := HN.out.1; omega)
      have hfs := HF.out i hlt
      have HC := Lib.hid (HR.out.create (by have := HI10.out; omega) (f i) hfs)
      have HFS := Lib.hid hfs
      clear hin hfs
      go_wp2_with fail
      refine HC.out.mono ?_; rintro e w3 ⟨y, hy, rfl, hr, -⟩
      have hr2 := Lib.hid hr
      have HMO := Lib.hid (fun (hc : (S.create (f i) y).2 = 0) => Sf.some4_more HR.out.ok HR.out.keys HS.out hy (by have := HZ.out; have := HI10.out; omega) hc)
      have HNO : Hid ((S.create (f i) y).2 ≠ 0 → (S.create (f i) y).1 = S) := Lib.hid (fun h => Sf.create_no (by rw [HS.out.fuse]; decide) h)
      clear hr hy HC x0
      by_cases hc : (S.create (f i) y).2 = 0
      · have HM := Lib.hid (HMO.out hc)
        rw [hc]
        generalize (S.create (f i) y).1 = S2 at *
        obtain ⟨ad9, hAd, x0, -⟩ := HA.out.at_ hr2.out.bel HLT.out
        cases hAd
        have x0 := x0 (by omega)
        rw [Nat.mul_one, show nx1 f i 0 = .string (f i) from rfl] at x0
        have HAP := Lib.hid (hr2.out.append (by have := HI10.out; omega) (by have := HI10.out; omega) (f i) HFS.out ⟨#[115, 111, 109, 101]⟩ (by decide))
        clear hc HMO HNO
        go_wp2_with fail
        refine HAP.out.mono ?_; rintro e w4 ⟨rfl, hr, -⟩
        have HR4 : Hid (Runs W base fb (300 * (i + 1)) (2 * (i + 1)) (S2.append (f i) Sf.someB).1 w4) := Lib.hid hr
        generalize (S2.append (f i) ⟨#[115, 111, 109, 101]⟩).2 = e4 at *
        clear hr HAP x0
        go_wp2_with fail
        go_roundw
        case rel => exact ⟨i + 1, (S2.append (f i) Sf.someB).1, HI1.out, by go_num, HR4.out, HM.out.1, Nat.le_trans HM.out.2 (Nat.succ_le_succ HZ.out)⟩
        case measure => simp [intOf]; omega
      · have hS := HNO.out hc
        have HR3 : Hid (Runs W base fb (300 * (i + 1)) (2 * (i + 1)) S w3) := Lib.hid (by
          have := hr2.out
          rw [hS] at this
          exact this.mono (by omega) (by omega))
        clear HMO HNO hS hr2
        generalize (S.create (f i) y).2 = e3 at *
        have q0 : (e3 == 0) = false := by simpa using hc
        have q1 : decide (e3 = 0) = false := decide_eq_false hc
        clear hc
        go_wp2_with fail
        go_roundw
        case rel => exact ⟨i + 1, S, HI1.out, by go_num, HR3.out, HS.out, Nat.le_succ_of_le HZ.out⟩
        case measure => simp [intOf]; omega
    · have d1 : decide ((i : Int) < (n : Int)) = false := decide_eq_false (by omega)
      obtain rfl : i = n := by omega
      clear hlt hin i0 d1
      have R3 := Lib.hid (HR.out.mono (B2 := 3000) (N2 := 20) (by have := HN.out.1; omega) (by have := HN.out.1; omega))
      clear HR
      obtain ⟨keep, hkeep⟩ : ∃ keep, keep = (List.range n2).map fun j => (b j).data.toList := ⟨_, rfl⟩
      have hkl : keep.length = n2 := by rw [hkeep]; simp
      have HKT : Hid (∀ j, j < n2 → keep.getD j [] = (b j).data.toList) := Lib.hid (fun j hj => by rw [hkeep]; simp [List.getD, hj])
      have HKL := Lib.hid hkl
      have HKM : Hid (∀ k, k ∈ keep ↔ ∃ j, j < n2 ∧ (b j).data.toList = k) := Lib.hid (fun k => by
        rw [hkeep, List.mem_map]
        exact ⟨fun ⟨j, h1, h2⟩ => ⟨j, List.mem_range.1 h1, h2⟩, fun ⟨j, h1, h2⟩ => ⟨j, List.mem_range.2 h1, h2⟩⟩)
      have HKR : Hid (∀ U, Below W.heap.size W U → Row 1 (tx keep) U A2 keep.length) := Lib.hid (fun U hU => by
        rw [HKL.out]
        intro hn0
        obtain ⟨ad, hAd, hlo, hc⟩ := (HA2.out.later hU) hn0
        refine ⟨ad, hAd, hlo, fun j hj q hq => ?_⟩
        rw [hc j hj q hq]
        unfold nx1 tx
        rw [HKT.out j hj, Sf.bs_data])
      clear hkeep hkl
      go_wp2_with fail
      refine (R3.out.list).mono ?_; rintro e w4 ⟨A4, c4, rfl, ht4, hb4⟩
      have R4 := Lib.hid (R3.out.far hb4)
      have HT4 := Lib.hid (ht4.from_ R3.out.bel.size)
      have hlf := R3.out.few
      obtain ⟨T1, t1, t2, t3, t4, t5, t6⟩ := Sf.sweep_is R4.out.ok R4.out.keys HS.out.dead HS.out.fuse keep
      have HSW := Lib.hid t1
      have HT1 := Lib.hid (And.intro t2 (And.intro t3 t4))
      have HLK := Lib.hid t5
      have HSO := Lib.hid (And.intro R4.out.ok.nice R4.out.keys)
      clear ht4 hb4 t1 t2 t3 t4 t5 t6 R3
      go_wp2_with fail
      have HSWE := Lib.hid (Sweep_any R4.out (by decide) A2 c2 keep (by rw [HKL.out]; have := HN.out.2; omega) (fun U hU _ => HKR.out U hU))
      rw [HKL.out] at HSWE
      refine HSWE.out.mono ?_; rintro e w5 ⟨rfl, hr, hm⟩
      rw [HSW.out] at hr ⊢
      have R5 := Lib.hid hr
      have HT5 := Lib.hid (HT4.out.stays hm.st)
      have HL2 := Lib.hid (Sf.list_without HSO.out.1 HSO.out.2 R5.out.ok.nice R5.out.keys keep HLK.out)
      obtain ⟨T2, t1, t2, t3, t4, t5, t6⟩ := Sf.sweep_is R5.out.ok R5.out.keys HT1.out.1 HT1.out.2.1 keep
      have e0 : ((Sf.list T1.names).filter fun k => decide (k ∉ keep)).length = 0 := by rw [HL2.out]; exact Sf.filter_none_of
      obtain rfl : T2 = T1 := t6 e0
      rw [e0] at t1
      have HSW2 := Lib.hid t1
      clear hr hm t1 t2 t3 t4 t5 t6 e0 HSW HSWE HT4 R4
      obtain ⟨l, hl⟩ : ∃ l, l = Sf.list S.names := ⟨_, rfl⟩
      rw [← hl] at HL2 HT5 hlf HLK ⊢
      have HLN : Hid (∀ q, q < l.length → (Sf.look S.names (bs (l.getD q []))).isSome = true ∧ (bs (l.getD q [])).size ≤ maxLen) := Lib.hid (fun q hq => by
        rw [hl] at hq ⊢
        obtain ⟨x, hx, hs⟩ := Sf.list_at HSO.out.1 HSO.out.2 hq
        exact ⟨by rw [hx]; rfl, Nat.le_trans hs (by decide)⟩)
      clear hl
      obtain ⟨m, hm⟩ : ∃ m, m = l.length := ⟨_, rfl⟩
      have HLM := Lib.hid hm
      rw [← hm] at HT5 hlf HLN ⊢
      clear hm
      obtain ⟨cnt, hcnt⟩ : ∃ cnt, cnt = (l.filter fun k => decide (k ∉ keep)).length := ⟨_, rfl⟩
      have HCN := Lib.hid hcnt
      rw [← hcnt]
      clear hcnt
      go_wp2_with fail
      have HSWE := Lib.hid (Sweep_any R5.out (by decide) A2 c2 keep (by rw [HKL.out]; have := HN.out.2; omega) (fun U hU _ => HKR.out U hU))
      rw [HKL.out] at HSWE
      refine HSWE.out.mono ?_; rintro e w6 ⟨rfl, hr, hm⟩
      rw [HSW2.out] at hr ⊢
      have R6 := Lib.hid hr
      have HT6 := Lib.hid (HT5.out.stays hm.st)
      clear hr hm HSW2 HSWE HT5 R5
      go_wp2_with fail
      refine (R6.out.list).mono ?_; rintro e w7 ⟨A7, c7, rfl, ht7, hb7⟩
      rw [HL2.out] at ht7 ⊢
      have R7 := Lib.hid (R6.out.far hb7)
      have HT7 := Lib.hid (HT6.out.far hb7)
      have HU7 := Lib.hid ht7
      clear ht7 hb7 R6 HT6
      obtain ⟨lk, hlk⟩ : ∃ lk, lk = (l.filter fun k => decide (k ∈ keep)) := ⟨_, rfl⟩
      rw [← hlk] at HU7 HL2 ⊢
      have HLKK := Lib.hid hlk
      clear hlk
      obtain ⟨m2, hm2⟩ : ∃ m2, m2 = lk.length := ⟨_, rfl⟩
      rw [← hm2] at HU7 ⊢
      have HM2 := Lib.hid hm2
      clear hm2
      go_wp2_with fail
      go_loopw [14, 15, 16, 17, 18, 19] (fun kv jv _ _ _ _ U => ∃ j : Nat, j ≤ m ∧ jv = .int .i64 (j : Int) ∧ kv = .int .i64 (Sf.kq keep l j : Int) ∧ Below w7.heap.size w7 U) (fun _ jv _ _ _ _ _ => m - (intOf jv).toNat)
      case atStart => exact ⟨0, Nat.zero_le _, rfl, rfl, Below.refl _ _⟩
      case round =>
        rename World => U
        obtain ⟨j, hji, rfl, rfl, hbu⟩ := hrel
        have HBU := Lib.hid hbu
        clear hbu
        have j0 : (0 : Int) ≤ (j : Int) := Int.natCast_nonneg _
        by_cases hlt : j < m
        · have j1 : (j : Int) < (m : Int) := by omega
          have d1 : decide ((j : Int) < (m : Int)) = true := decide_eq_true j1
          have HJ1 : Hid (j + 1 ≤ m) := Lib.hid hlt
          have HJL := Lib.hid hlt
          have HKS := Lib.hid (Sf.kq_succ (keep := keep) (l := l) (i := j) (by rw [← HLM.out]; exact hlt))
          have HKA := Lib.hid (Sf.kq_at (keep := keep) (l := l) (i := j) (by rw [← HLM.out]; exact hlt))
          obtain ⟨kj, hkj⟩ : ∃ kj, kj = l.getD j [] := ⟨_, rfl⟩
          rw [← hkj] at HKS HKA
          have HKJ := Lib.hid hkj
          obtain ⟨kq, hkq⟩ : ∃ kq, kq = Sf.kq keep l j := ⟨_, rfl⟩
          rw [← hkq] at HKS HKA ⊢
          have hkq64 : kq ≤ 64 := by rw [hkq]; unfold Sf.kq; exact Nat.le_trans (List.length_filter_le _ _) (Nat.le_trans (List.length_take_le _ _) (by omega))
          clear hji hlt hkj hkq
          go_wp2_with fail
          go_loopw [16, 17] (fun kv qv V => ∃ q : Nat, q ≤ n2 ∧ qv = .int .i64 (q : Int) ∧ kv = .bool (decide (∃ r, r < q ∧ (b r).data.toList = kj)) ∧ Below w7.heap.size w7 V) (fun _ qv _ => n2 - (intOf qv).toNat)
          case atStart => exact ⟨0, Nat.zero_le _, rfl, by rw [decide_eq_false (fun ⟨r, hr, _⟩ => absurd hr (Nat.not_lt_zero r))], HBU.out⟩
          case round =>
            rename World => V
            obtain ⟨q, hqi, rfl, rfl, hbv⟩ := hrel
            have HBV := Lib.hid hbv
            clear hbv
            have q0 : (0 : Int) ≤ (q : Int) := Int.natCast_nonneg _
            by_cases hql : q < n2
            · have k1 : (q : Int) < (n2 : Int) := by omega
              have d2 : decide ((q : Int) < (n2 : Int)) = true := decide_eq_true k1
              have HWV := Lib.hid (below_step R7.out.bel HBV.out)
              obtain ⟨ad2, hAd, x0, -⟩ := HA2.out.at_ HWV.out hql
              subst hAd
              have x0 := x0 (by omega)
              rw [Nat.mul_one, show nx1 b q 0 = .string (b q) from rfl] at x0
              have hrow := HT7.out.row
              rw [← HLM.out] at hrow
              obtain ⟨ad4, hAd, y0, -⟩ := hrow.at_ HBV.out HJL.out
              subst hAd
              have y0 := y0 (by omega)
              rw [Nat.mul_one, show tx l j 0 = .string (bs (l.getD j [])) from rfl, ← HKJ.out] at y0
              have HQ1 : Hid (q + 1 ≤ n2) := Lib.hid hql
              have HBD : Hid (∀ z, Below w7.heap.size w7 (V.drewN z)) := Lib.hid (fun z => below_drewN HBV.out z)
              clear hqi hql hrow
              by_cases hex : ∃ r, r < q ∧ (b r).data.toList = kj
              · rw [decide_eq_true hex]
                have HR : Hid (decide (∃ r, r < q + 1 ∧ (b r).data.toList = kj) = true) := Lib.hid (decide_eq_true (by obtain ⟨r, h1, h2⟩ := hex; exact ⟨r, by omega, h2⟩))
                clear hex
                go_wp2_with fail
                go_quiet (fail)
                go_wp2_with fail
                go_roundw
                case rel => exact ⟨q + 1, HQ1.out, by go_num, by rw [HR.out], HBD.out _⟩
                case measure => simp [intOf]; omega
              · rw [decide_eq_false hex]
                by_cases hb : b q = bs kj
                · have HR : Hid (decide (∃ r, r < q + 1 ∧ (b r).data.toList = kj) = true) := Lib.hid (decide_eq_true ⟨q, by omega, by rw [hb]; simp [bs]⟩)
                  rw [hb] at x0
                  have b0 : ((bs kj).toList == (bs kj).toList) = true := by simp
                  clear hex hb
                  go_wp2_with fail
                  go_quiet (fail)
                  go_wp2_with fail
                  go_roundw
                  case rel => exact ⟨q + 1, HQ1.out, by go_num, by rw [HR.out], HBD.out _⟩
                  case measure => simp [intOf]; omega
                · have HR : Hid (decide (∃ r, r < q + 1 ∧ (b r).data.toList = kj) = false) := Lib.hid (decide_eq_false (by
                    rintro ⟨r, h1, h2⟩
                    by_cases e : r = q
                    · exact hb (by rw [← e, ← h2]; exact (Sf.bs_data _).symm)
                    · exact hex ⟨r, by omega, h2⟩))
                  have b0 : ((b q).toList == (bs kj).toList) = false := by rw [str_beq]; exact decide_eq_false hb
                  clear hex hb
                  go_wp2_with fail
                  go_quiet (fail)
                  go_wp2_with fail
                  go_roundw
                  case rel => exact ⟨q + 1, HQ1.out, by go_num, by rw [HR.out], HBD.out _⟩
                  case measure => simp [intOf]; omega
            · have d2 : decide ((q : Int) < (n2 : Int)) = false := decide_eq_false (by omega)
              obtain rfl : q = n2 := by omega
              have hdec : decide (∃ r, r < q ∧ (b r).data.toList = kj) = decide (kj ∈ keep) := by
                rw [decide_eq_decide]
                exact (HKM.out kj).symm
              rw [hdec]
              clear hqi hql q0 hdec
              by_cases hin : kj ∈ keep
              · rw [decide_eq_true hin]
                obtain ⟨ka1, ka2⟩ := HKA.out hin
                have ks1 := HKS.out
                rw [if_pos hin] at ks1
                have HKS1 := Lib.hid ks1
                obtain ⟨hls, hlz⟩ := HLN.out j HJL.out
                rw [← HKJ.out] at hls hlz
                have hrow := HT7.out.row
                rw [← HLM.out] at hrow
                obtain ⟨ad4, hAd, y0, -⟩ := hrow.at_ HBV.out HJL.out
                subst hAd
                have y0 := y0 (by omega)
                rw [Nat.mul_one, show tx l j 0 = .string (bs (l.getD j [])) from rfl, ← HKJ.out] at y0
                rw [← HLKK.out] at ka1 ka2
                rw [← HM2.out] at ka2
                have hrow2 := HU7.out.row
                rw [← HM2.out] at hrow2
                obtain ⟨ad7, hAd, z0, -⟩ := hrow2.at_ HBV.out ka2
                subst hAd
                have z0 := z0 (by omega)
                rw [Nat.mul_one, show tx lk kq 0 = .string (bs (lk.getD kq [])) from rfl, ka1] at z0
                have HRD := Lib.hid ((R7.out.far HBV.out).read (bs kj) hlz)
                have hrdv : T2.read (bs kj) = (⟨#[115, 111, 109, 101]⟩, 0) := by
                  obtain ⟨x, hx⟩ := Option.isSome_iff_exists.1 hls
                  have hbk : (bs kj).data.toList = kj := by simp [bs]
                  have hlt2 : Sf.look T2.names (bs kj) = some x := by
                    rw [HLK.out, hbk, if_neg (fun h => h.2 hin)]
                    exact hx
                  rw [Sf.read_of HT1.out.1 hlt2, HT1.out.2.2, HS.out.all _ x hx]
                  rfl
                rw [hrdv] at HRD
                have HYZ : Hid (∀ U2, Below V.heap.size V U2 → U2.cell? (ad4.add j) = some (.string (bs kj)) ∧ U2.cell? (ad7.add kq) = some (.string (bs kj))) := Lib.hid (fun U2 hU => ⟨cell_keep y0 hU, cell_keep z0 hU⟩)
                have HK2 := Lib.hid ka2
                clear hin ka1 ka2 ks1 hls hlz hrow hrow2 z0 hrdv
                go_wp2_with fail
                refine HRD.out.mono ?_; rintro e w8 ⟨rfl, hb8⟩
                obtain ⟨y0, z0⟩ := HYZ.out w8 hb8
                have HBD : Hid (∀ z, Below w7.heap.size w7 (w8.drewN z)) := Lib.hid (fun z => below_drewN (below_step HBV.out hb8) z)
                have hk2 := HK2.out
                have k1 : ((kq : Nat) : Int) < (m2 : Int) := by omega
                have k0 : (0 : Int) ≤ (kq : Int) := Int.natCast_nonneg _
                have d3 : decide ((m2 : Int) ≤ (kq : Int)) = false := decide_eq_false (by omega)
                have d4 : decide (m2 ≤ kq) = false := decide_eq_false (by omega)
                have b0 : ((bs kj).toList == (bs kj).toList) = true := by simp
                have b1 : ((⟨#[115, 111, 109, 101]⟩ : ByteArray).toList == [115, 111, 109, 101]) = true := by rw [some_list]; decide
                have b2 : ((⟨#[115, 111, 109, 101]⟩ : ByteArray).toList == (⟨#[115, 111, 109, 101]⟩ : ByteArray).toList) = true := by rw [str_beq]; decide
                clear hb8 HRD HYZ hk2
                go_wp2_with fail
                go_quiet (fail)
                go_wp2_with fail
                go_roundw
                case rel => exact ⟨j + 1, HJ1.out, by go_num, by rw [HKS1.out]; go_num, HBD.out _⟩
                case measure => simp [intOf]; omega
              · rw [decide_eq_false hin]
                have ks1 := HKS.out
                rw [if_neg hin, Nat.add_zero] at ks1
                have HKS1 := Lib.hid ks1
                clear hin ks1
                go_wp2_with fail
                go_roundw
                case rel => exact ⟨j + 1, HJ1.out, by go_num, by rw [HKS1.out]; rfl, HBV.out⟩
                case measure => simp [intOf]; omega
        · have d1 : decide ((j : Int) < (m : Int)) = false := decide_eq_false (by omega)
          obtain rfl : j = m := by omega
          have he1 : Sf.kq keep l j = m2 := by rw [HLM.out, Sf.kq_end, ← HLKK.out, ← HM2.out]
          rw [he1]
          have he2 : cnt + m2 = j := by rw [HCN.out, HM2.out, HLKK.out, HLM.out]; exact Sf.filter_both keep l
          have q1 : IntKind.i64.wrap ((cnt : Int) + (m2 : Int)) = (j : Int) := by rw [IntWalk.i64_in _ (by omega)]; omega
          have q2 : wrap64 ((cnt : Int) + (m2 : Int)) = (j : Int) := by rw [IntWalk.wrap64_in _ (by omega)]; omega
          have HFB := Lib.hid (below_step R7.out.bel HBU.out)
          clear hji hlt j0 he1 he2
          go_wp2_with fail
          go_ret
          exact ⟨rfl, HFB.out⟩
set_option maxRecDepth 100000 in
theorem diskSweeps_walk {H : Type} {enc : TypeId × Value → H} {r0 r1 : Reach} {b0 b1 : Nat} {v0 v1 : Value} {d0 d1 : DataW H} {p0 p1 : List MemPlace} (w : World)
    (o0 : Value.okWide Try.prog w r0 b0 22 v0) (h0 : DataW.Trod enc Try.prog w 0 (fun _ => true) true 22 v0 d0 p0)
    (o1 : Value.okWide Try.prog w r1 b1 22 v1) (h1 : DataW.Trod enc Try.prog w 0 (fun _ => true) true 22 v1 d1 p1) :
    Calls Try.prog 5 #[v0, v1] w fun e w' => e = .returned (.bool true) ∧ Below w.heap.size w w' := by
  obtain ⟨A, n, c, f, rfl, -, hA, hf⟩ := open_names o0 h0
  obtain ⟨A2, n2, c2, b, rfl, -, hA2, -⟩ := open_names o1 h1
  exact diskSweeps_walk0 w A n c f hA hf A2 n2 c2 b hA2
end Go.Proofs.Ytgpmomjdjakklaa
