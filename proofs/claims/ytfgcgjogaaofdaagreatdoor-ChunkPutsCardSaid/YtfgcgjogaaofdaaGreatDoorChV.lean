import Derived.Test.YtfgcgjogaaofdaaGreatDoorChH
import Derived.Test.YtfgcgjogaaofdaaGreatDoorStructs
import Derived.ProofKit
import Derived.LaidMore
import Derived.OpenShut
import Derived.Stop.Joined
import Derived.Stop.LaidErr
/-
  What Get and Turn of package chunk come to.
-/
namespace Go.Proofs.YtfgcgjogaaofdaaGreatDoor
open Go.RowKit
/-- samples, and an error's number -/
def CGot (r : List (Int × Nat) × Int) (w : World) (e : Ending) (w' : World) : Prop :=
  ∃ A c, e = .returned (.tuple #[.slice A r.1.length c, .int .i64 r.2]) ∧ Row 2 (sx (Ch.sm (Ch.tL r.1) (Ch.vL r.1))) w' A r.1.length ∧ Below w.heap.size w w'
theorem CGot.none {x : Int} {w w' : World} (h : Below w.heap.size w w') : CGot ([], x) w (.returned (.tuple #[.slice none 0 0, .int .i64 x])) w' := ⟨Option.none, 0, rfl, fun h => absurd h (Nat.lt_irrefl 0), h⟩
theorem Ch.tL_in {L : List (Int × Nat)} (h : ∀ x ∈ L, Ch.inS x) : (∀ i, i < L.length → St.inR (Ch.tL L i)) ∧ ∀ i, i < L.length → Ch.vL L i < 18446744073709551616 := by
  constructor
  · intro i hi
    unfold Ch.tL
    rw [List.getD_eq_getElem?_getD, List.getElem?_eq_getElem hi]
    exact (h _ (List.getElem_mem hi)).1
  · intro i hi
    unfold Ch.vL
    rw [List.getD_eq_getElem?_getD, List.getElem?_eq_getElem hi]
    exact (h _ (List.getElem_mem hi)).2
theorem Ch.get_of (gen : Int) (s : ByteArray) (hg : 1 ≤ gen ∧ gen ≤ 3) (hb : (Crc.good s).2 = true) : Ch.get gen s =
    if (Ch.parse gen ((Crc.good s).1, false)).2.2 = false ∧ (Ch.parse gen ((Crc.good s).1, false)).2.1 = ByteArray.empty ∧ Ch.put gen (Ch.tL (Ch.parse gen ((Crc.good s).1, false)).1) (Ch.vL (Ch.parse gen ((Crc.good s).1, false)).1) (Ch.parse gen ((Crc.good s).1, false)).1.length = (s, 0)
    then ((Ch.parse gen ((Crc.good s).1, false)).1, 0) else ([], 9) := by
  unfold Ch.get
  rw [if_neg (by simpa using hg), if_neg (by rw [hb]; decide)]
theorem ba_empty (s : ByteArray) : s.toList.isEmpty = decide (s = ByteArray.empty) := by
  rw [ByteArray.toList_eq]
  by_cases h : s = ByteArray.empty
  · subst h; rfl
  · simp only [h, decide_false]
    have h2 : s.data.toList ≠ [] := fun e => h (ByteArray.ext (Array.toList_inj.1 (by rw [e]; rfl)))
    cases h3 : s.data.toList with
    | nil => exact absurd h3 h2
    | cons a l => rfl
theorem good_le (s : ByteArray) : (Crc.good s).1.size ≤ s.size := by
  unfold Crc.good
  split
  · simp
  · split
    · simp only [ByteArray.size_extract]; omega
    · simp
theorem Env.far {w W W2 : World} {b : Nat} (h : Env w W) (hf : Far W W2 (OneSet b)) (hb : w.heap.size ≤ b) (h2 : 2 ≤ b) : Env w W2 :=
  ⟨h.cl.far hf (by omega), h.tb.far hf (by omega), h.bel.trans (hf.below h.bel.size (fun k hk => by have : k = b := hk; omega))⟩
set_option maxRecDepth 100000 in
set_option maxHeartbeats 2000000 in
theorem CGet_any (s : ByteArray) (hs : s.size ≤ 100000) (gen : Int) (w : World) (hC : ClsOk w) (hT : TabOk w) :
    Calls Tryz.prog 8 #[.string s, .int .i64 gen] w (CGot (Ch.get gen s) w) := by
  have HE := Lib.hid (Env.start hC hT)
  have hp2 := hT.pos
  clear hC hT
  by_cases hg : 1 ≤ gen ∧ gen ≤ 3
  · obtain ⟨k, hk⟩ := gen_cases hg
    obtain ⟨gv, e2, he, hget⟩ := gen_get gen k hk
    obtain ⟨fv, e1, -, -⟩ := gen_put gen k hk none 0 0 (by omega) (fun _ => 0) (fun _ => 0) (fun i hi => by omega) (fun i hi => by omega)
    have hof := fun W => of_ok gen k hk W
    rw [e1, e2] at hof
    have HOF := Lib.hid hof
    have HGET := Lib.hid hget
    have HGD := Lib.hid (fun W => Good_any s (by unfold maxLen; omega) W)
    have hgl := good_le s
    have hof2 := Ch.get_of gen s hg
    have hno : (Crc.good s).2 = false → Ch.get gen s = ([], 9) := fun h => by unfold Ch.get; rw [if_neg (by simpa using hg), if_pos h]
    clear hof hk e1 e2 hget hg
    go_enter Tryz.func8, Tryz.ntmps8
    generalize Crc.good s = g at *
    obtain ⟨bd, ok⟩ := g
    simp only at hof2 hno hgl HGD
    have HOF2 := Lib.hid hof2; have HNO := Lib.hid hno
    clear hof2 hno
    go_wp2_with fail
    refine (HOF.out _).mono ?_; rintro e w2 ⟨rfl, hb2⟩
    have hal : Below w2.heap.size w2 (w2.alloc (.cells #[.func (.func fv) #[] #[], .func (.func gv) #[] #[]] 39)) := (Below.refl _ _).alloc (Nat.le_refl _) _
    have HX : Hid (RowIs (w2.alloc (.cells #[.func (.func fv) #[] #[], .func (.func gv) #[] #[]] 39)) w2.heap.size (.cells #[.func (.func fv) #[] #[], .func (.func gv) #[] #[]] 39)) := Lib.hid (RowIs.one _ _)
    have HE3 := Lib.hid ((HE.out.later hb2).later hal)
    clear hb2 hal HE
    go_wp2_with fail
    refine (HGD.out _).mono ?_; rintro e w4 ⟨rfl, hb4⟩
    have HE4 := Lib.hid (HE3.out.later hb4); have HX4 := Lib.hid (HX.out.keep hb4)
    clear hb4 HE3 HX
    cases ok
    · have HN := Lib.hid (HNO.out rfl)
      clear HOF2 HNO
      go_wp2_with fail
      go_ret2
      rw [HN.out]
      exact CGot.none HE4.out.bel
    · have hgs := HOF2.out rfl
      have hin := Ch.parse_in gen (bd, false)
      generalize hR : Ch.parse gen (bd, false) = r at *
      obtain ⟨L, rest, bad⟩ := r
      simp only at hgs hin
      have HGS := Lib.hid hgs; have HIN := Lib.hid hin
      have hL : L.length ≤ 200 := hin.1
      have hal : Below w4.heap.size w4 (w4.alloc (.cells #[.string bd, .bool false] 53)) := (Below.refl _ _).alloc (Nat.le_refl _) _
      have HC5 : Hid (CurAt w4.heap.size bd false (w4.alloc (.cells #[.string bd, .bool false] 53))) := Lib.hid (RowIs.one _ _)
      have HE5 := Lib.hid (HE4.out.later hal); have HX5 := Lib.hid (HX4.out.keep hal)
      have hz4 := HE4.out.bel.size
      have hcall := HGET.out w4.heap.size (bd, false) _ (by omega) (by show bd.size ≤ 100000; omega) HC5.out HE5.out.cl HE5.out.tb
      rw [hR] at hcall
      have HCALL := Lib.hid hcall
      have x1 := cell_of_row _ _ 1 _ _ _ HX5.out
      simp only [List.getElem?_toArray, List.getElem?_cons_zero, List.getElem?_cons_succ] at x1
      clear hal hcall hgs hin hR HE4 HX4 HNO HOF2 HGET HOF HGD HX5 HC5
      go_wp2_with fail
      refine HCALL.out.mono ?_; rintro e w6 ⟨A, cc, rfl, hrow, hcu, hfar⟩
      have HE6 := Lib.hid (HE5.out.far hfar (by omega) (by omega))
      have HR6 := Lib.hid hrow; have HC6 := Lib.hid hcu
      have hput := CPut_any A L.length cc (by omega) (Ch.tL L) (Ch.vL L) (Ch.tL_in HIN.out.2).1 (Ch.tL_in HIN.out.2).2 gen w6 hrow HE6.out.cl HE6.out.tb
      have HPUT := Lib.hid hput
      clear x1 hrow hcu hfar hput HE5 HCALL
      have hpd : ∀ p : ByteArray × Int, p = (p.1, p.2) := fun _ => rfl
      generalize hP : Ch.put gen (Ch.tL L) (Ch.vL L) L.length = p at *
      obtain ⟨ps, pe⟩ := p
      clear hP hpd
      simp only at HPUT HGS HR6 HC6
      generalize hLl : L.length = m at *
      have HLL := Lib.hid hLl; clear hLl
      go_wp2_with fail
      refine HPUT.out.mono ?_; rintro e w7 ⟨rfl, hb7⟩
      have HE7 := Lib.hid (HE6.out.later hb7); have HR7 := Lib.hid (HR6.out.later hb7)
      have HC7 : Hid (CurAt w4.heap.size rest bad w7) := Lib.hid (heap_keep HC6.out hb7)
      clear hb7 HE6 HR6 HC6 HPUT
      go_wp2_with fail
      refine (curDone w4.heap.size rest bad w7 HC7.out).mono ?_; rintro e w8 ⟨rfl, hb8⟩
      have HE8 := Lib.hid (HE7.out.later hb8); have HR8 := Lib.hid (HR7.out.later hb8)
      clear hb8 HE7 HR7 HC7
      rw [ba_empty]
      by_cases hd : rest = ByteArray.empty ∧ bad = false
      · obtain ⟨rfl, rfl⟩ := hd
        by_cases hpe : pe = 0
        · subst hpe
          by_cases hps : ps = s
          · subst hps
            have HN : Hid (Ch.get gen ps = (L, 0)) := Lib.hid (by rw [HGS.out, if_pos ⟨rfl, rfl, rfl⟩])
            clear HGS
            go_wp2_with fail
            go_ret2
            rw [HN.out]
            refine ⟨A, cc, ?_, ?_, HE8.out.bel⟩
            · show _ = Ending.returned (.tuple #[.slice A L.length cc, .int .i64 0])
              rw [HLL.out]; rfl
            · show Row 2 _ _ A L.length
              rw [HLL.out]; exact HR8.out
          · have HN : Hid (Ch.get gen s = ([], 9)) := Lib.hid (by rw [HGS.out, if_neg (fun h => hps (Prod.mk.inj h.2.2).1)])
            have hbq : (ps.toList == s.toList) = false := by rw [str_beq]; simpa using hps
            clear HGS hps
            go_wp2_with fail
            go_ret2
            rw [HN.out]
            exact CGot.none HE8.out.bel
        · have HN : Hid (Ch.get gen s = ([], 9)) := Lib.hid (by rw [HGS.out, if_neg (fun h => hpe (Prod.mk.inj h.2.2).2)])
          have hbq : (pe == 0) = false := by simpa using hpe
          clear HGS
          go_wp2_with fail
          go_ret2
          rw [HN.out]
          exact CGot.none HE8.out.bel
      · have HN : Hid (Ch.get gen s = ([], 9)) := Lib.hid (by rw [HGS.out, if_neg (fun h => hd ⟨h.2.1, h.1⟩)])
        have hbq : (decide (rest = ByteArray.empty) && !bad) = false := by
          rw [Bool.and_eq_false_iff]
          by_cases h1 : rest = ByteArray.empty
          · right
            cases bad
            · exact absurd ⟨h1, rfl⟩ hd
            · rfl
          · left; simpa using h1
        rw [hbq]
        clear HGS hd hbq
        go_wp2_with fail
        go_ret2
        rw [HN.out]
        exact CGot.none HE8.out.bel
  · have HN : Hid (Ch.get gen s = ([], 1)) := Lib.hid (by unfold Ch.get; rw [if_pos hg])
    have HOF := Lib.hid (fun W => of_no gen hg W)
    clear hg
    go_enter Tryz.func8, Tryz.ntmps8
    go_wp2_with fail
    refine (HOF.out _).mono ?_; rintro e w2 ⟨rfl, hb2⟩
    have hal : Below w2.heap.size w2 (w2.alloc (.cells #[.nilFunc, .nilFunc] 39)) := (Below.refl _ _).alloc (Nat.le_refl _) _
    have HE3 := Lib.hid ((HE.out.later hb2).later hal)
    clear hb2 hal HE
    go_wp2_with fail
    go_ret2
    rw [HN.out]
    exact CGot.none HE3.out.bel
/-- bytes of one generation as those of another one -/
def Ch.turn (a b : Int) (s : ByteArray) : ByteArray × Int := if (Ch.get a s).2 ≠ 0 then (ByteArray.empty, (Ch.get a s).2) else Ch.put b (Ch.tL (Ch.get a s).1) (Ch.vL (Ch.get a s).1) (Ch.get a s).1.length
set_option maxRecDepth 100000 in
set_option maxHeartbeats 1000000 in
theorem CTurn_any (s : ByteArray) (hs : s.size ≤ 100000) (a b : Int) (w : World) (hC : ClsOk w) (hT : TabOk w) :
    Calls Tryz.prog 7 #[.string s, .int .i64 a, .int .i64 b] w fun e w' => e = .returned (.tuple #[.string (Ch.turn a b s).1, .int .i64 (Ch.turn a b s).2]) ∧ Below w.heap.size w w' := by
  have HE := Lib.hid (Env.start hC hT)
  have HGET := Lib.hid (CGet_any s hs a w hC hT)
  have hin := Ch.get_in a s
  have ht : Ch.turn a b s = if (Ch.get a s).2 ≠ 0 then (ByteArray.empty, (Ch.get a s).2) else Ch.put b (Ch.tL (Ch.get a s).1) (Ch.vL (Ch.get a s).1) (Ch.get a s).1.length := rfl
  generalize Ch.turn a b s = r at *
  generalize Ch.get a s = g at *
  obtain ⟨L, x⟩ := g
  simp only at hin ht
  have HIN := Lib.hid hin; have HTN := Lib.hid ht
  have hL := hin.1
  clear hin ht hC hT
  go_enter Tryz.func7, Tryz.ntmps7
  go_wp2_with fail
  refine HGET.out.mono ?_; rintro e w2 ⟨A, cc, rfl, hrow, hb2⟩
  have HE2 := Lib.hid (HE.out.later hb2); have HR2 := Lib.hid hrow
  simp only at hrow HR2
  by_cases hx : x = 0
  · subst hx
    have HP := Lib.hid (CPut_any A L.length cc (by omega) (Ch.tL L) (Ch.vL L) (Ch.tL_in HIN.out.2).1 (Ch.tL_in HIN.out.2).2 b w2 hrow HE2.out.cl HE2.out.tb)
    have HN : Hid (r = Ch.put b (Ch.tL L) (Ch.vL L) L.length) := Lib.hid (by rw [HTN.out, if_neg (by simp)])
    clear hb2 hrow HTN HGET
    generalize Ch.put b (Ch.tL L) (Ch.vL L) L.length = p at *
    obtain ⟨ps, pe⟩ := p
    simp only at HP
    go_wp2_with fail
    refine HP.out.mono ?_; rintro e w3 ⟨rfl, hb3⟩
    have HE3 := Lib.hid (HE2.out.later hb3); clear hb3
    go_wp2_with fail
    go_ret2
    rw [HN.out]
    exact ⟨rfl, HE3.out.bel⟩
  · have HN : Hid (r = (ByteArray.empty, x)) := Lib.hid (by rw [HTN.out, if_pos hx])
    have hbq : (x == 0) = false := by simpa using hx
    clear hb2 hrow HTN HGET
    go_wp2_with fail
    go_ret2
    rw [HN.out]
    exact ⟨rfl, HE2.out.bel⟩
end Go.Proofs.YtfgcgjogaaofdaaGreatDoor
/-
  What Smallest of package chunk comes to; the document's example.
-/
namespace Go.Proofs.YtfgcgjogaaofdaaGreatDoor
open Go.RowKit
namespace Ch
/-- behind the first k generations: the best one, and its bytes -/
def small (t : Nat → Int) (v : Nat → Nat) (n : Nat) : Nat → Int × Nat
  | 0 => (0, 0)
  | k + 1 => if (put ((k : Int) + 1) t v n).2 = 0 ∧ ((small t v n k).1 = 0 ∨ (put ((k : Int) + 1) t v n).1.size ≤ (small t v n k).2) then ((k : Int) + 1, (put ((k : Int) + 1) t v n).1.size) else small t v n k
def exT (i : Nat) : Int := 1000 + 10 * (i : Int)
def exV (i : Nat) : Nat := if i = 2 then 9 else 7
theorem ex3 : (full 3 exT exV 3).size = 28 := by decide +kernel
theorem ex1 : (full 1 exT exV 3).size = 60 := by decide +kernel
theorem ex23 : (parse 2 (body 3 exT exV 3, false)).2.2 = true := by decide +kernel
theorem ex0 : full 2 exT exV 0 = ⟨#[0, 81, 83, 125, 82]⟩ := by decide +kernel
theorem exs : (small exT exV 3 3).1 = 3 := by decide +kernel
theorem exok (gen : Int) (h : 1 ≤ gen ∧ gen ≤ 3) : okay gen exT 3 = true := by
  unfold okay
  rw [show Ma.rising (sm exT fun _ => 0) 3 = true from by decide +kernel]
  simp only [Bool.and_true, decide_eq_true_eq]
  exact ⟨h.1, h.2, by omega⟩
theorem exin : (∀ i, i < 3 → St.inR (exT i)) ∧ ∀ i, i < 3 → exV i < 18446744073709551616 := by
  constructor
  · intro i hi; unfold St.inR exT; omega
  · intro i hi; unfold exV; split <;> omega
theorem exget (gen : Int) (h : 1 ≤ gen ∧ gen ≤ 3) : get gen (full gen exT exV 3) = (lst exT exV 3, 0) := get_full gen exT exV 3 exin.1 exin.2 (exok gen h)
theorem exput (gen : Int) (h : 1 ≤ gen ∧ gen ≤ 3) : put gen exT exV 3 = (full gen exT exV 3, 0) := by unfold put; rw [if_pos (exok gen h)]
theorem exturn : turn 1 3 (full 1 exT exV 3) = (full 3 exT exV 3, 0) := by
  unfold turn
  rw [exget 1 (by omega)]
  simp only [ne_eq, not_true_eq_false, if_false, lst_length]
  rw [put_congr 3 _ exT _ exV 3 (fun i hi => tL_lst exT exV 3 i hi), exput 3 (by omega)]
theorem exget2 : get 2 (full 3 exT exV 3) = ([], 9) := by
  have hgood : Crc.good (full 3 exT exV 3) = (body 3 exT exV 3, true) := by
    unfold full; rw [Crc.good_append _ _ (Crc.four_size _), if_pos rfl]
  unfold get
  rw [if_neg (by decide), hgood, if_neg (by simp)]
  simp only
  rw [if_neg (fun h => by have := ex23; rw [h.1] at this; cases this)]
end Ch
theorem okay_four (t : Nat → Int) (n : Nat) : Ch.okay 4 t n = false := by unfold Ch.okay; rw [Bool.and_eq_false_iff]; left; simp
set_option maxRecDepth 100000 in
set_option maxHeartbeats 1000000 in
theorem CSmallest_any (A : Option Addr) (n c : Nat) (hn : n ≤ 1000) (t : Nat → Int) (v : Nat → Nat) (ht : ∀ i, i < n → St.inR (t i)) (hv : ∀ i, i < n → v i < 18446744073709551616) (w : World) (hA : Row 2 (sx (Ch.sm t v)) w A n) (hC : ClsOk w) (hT : TabOk w) :
    Calls Tryz.prog 10 #[.slice A n c] w fun e w' => e = .returned (.int .i64 (Ch.small t v n 3).1) ∧ Below w.heap.size w w' := by
  have HE := Lib.hid (Env.start hC hT); have HA := Lib.hid hA; have HT := Lib.hid ht; have HV := Lib.hid hv
  clear hC hT hA ht hv
  go_enter Tryz.func10, Tryz.ntmps10
  go_wp2_with fail
  refine (generations_any _).mono ?_; rintro e w2 ⟨rfl, hb2⟩
  have HE2 := Lib.hid (HE.out.later hb2); clear hb2 HE
  go_wp2_with fail
  go_loopw [3, 4, 9] (fun b z i wr => ∃ k : Nat, k ≤ 3 ∧ i = .int .i64 k ∧ b = .int .i64 (Ch.small t v n k).1 ∧ z = .int .i64 ((Ch.small t v n k).2 : Nat) ∧ Env w wr) (fun _ _ i _ => 3 - (intOf i).toNat)
  case atStart => exact ⟨0, by omega, rfl, rfl, rfl, HE2.out⟩
  case round =>
    obtain ⟨k, hk, rfl, rfl, rfl, henv⟩ := hrel
    have HEk := Lib.hid henv; clear henv HE2
    by_cases hlt : k < 3
    · have e1 : wrap64 ((k : Int) + 1) = (k : Int) + 1 := IntWalk.wrap64_in _ (by omega)
      have i1 : (k : Int) < 3 := by omega
      have HP := Lib.hid (CPut_any A n c hn t v HT.out HV.out ((k : Int) + 1) wr (HA.out.later HEk.out.bel) HEk.out.cl HEk.out.tb)
      have hs : Ch.small t v n (k + 1) = if (Ch.put ((k : Int) + 1) t v n).2 = 0 ∧ ((Ch.small t v n k).1 = 0 ∨ (Ch.put ((k : Int) + 1) t v n).1.size ≤ (Ch.small t v n k).2) then ((k : Int) + 1, (Ch.put ((k : Int) + 1) t v n).1.size) else Ch.small t v n k := rfl
      generalize Ch.put ((k : Int) + 1) t v n = p at *
      generalize hs1 : Ch.small t v n (k + 1) = s1 at *
      have HS1 := Lib.hid hs1; clear hs1
      generalize Ch.small t v n k = s0 at *
      obtain ⟨ps, pe⟩ := p
      obtain ⟨sb, sz⟩ := s0
      simp only at hs HP
      have HS := Lib.hid hs
      clear hs
      by_cases hpe : pe = 0
      · subst hpe
        by_cases hsb : sb = 0
        · subst hsb
          have HN : Hid (s1 = ((k : Int) + 1, ps.size)) := Lib.hid (by rw [HS.out, if_pos ⟨rfl, .inl rfl⟩])
          clear HS
          go_wp2_with fail
          refine HP.out.mono ?_; rintro e w3 ⟨rfl, hb3⟩
          have HE3 := Lib.hid (HEk.out.later hb3); clear hb3
          go_wp2_with fail
          go_roundw
          case rel => exact ⟨k + 1, by omega, by go_num, by rw [HS1.out, HN.out], by rw [HS1.out, HN.out], HE3.out⟩
          case measure => simp [intOf]; omega
        · have q0 : (sb == 0) = false := by simpa using hsb
          by_cases hle : ps.size ≤ sz
          · have d1 : decide ((ps.size : Int) ≤ (sz : Int)) = true := by simp; omega
            have HN : Hid (s1 = ((k : Int) + 1, ps.size)) := Lib.hid (by rw [HS.out, if_pos ⟨rfl, .inr hle⟩])
            clear HS
            go_wp2_with fail
            refine HP.out.mono ?_; rintro e w3 ⟨rfl, hb3⟩
            have HE3 := Lib.hid (HEk.out.later hb3); clear hb3
            go_wp2_with fail
            go_roundw
            case rel => exact ⟨k + 1, by omega, by go_num, by rw [HS1.out, HN.out], by rw [HS1.out, HN.out], HE3.out⟩
            case measure => simp [intOf]; omega
          · have d1 : decide ((ps.size : Int) ≤ (sz : Int)) = false := by simp; omega
            have HN : Hid (s1 = (sb, sz)) := Lib.hid (by rw [HS.out, if_neg (fun h => by rcases h.2 with h | h <;> contradiction)])
            clear HS
            go_wp2_with fail
            refine HP.out.mono ?_; rintro e w3 ⟨rfl, hb3⟩
            have HE3 := Lib.hid (HEk.out.later hb3); clear hb3
            go_wp2_with fail
            go_roundw
            case rel => exact ⟨k + 1, by omega, by go_num, by rw [HS1.out, HN.out], by rw [HS1.out, HN.out], HE3.out⟩
            case measure => simp [intOf]; omega
      · have q0 : (pe == 0) = false := by simpa using hpe
        have HN : Hid (s1 = (sb, sz)) := Lib.hid (by rw [HS.out, if_neg (fun h => hpe h.1)])
        clear HS
        go_wp2_with fail
        refine HP.out.mono ?_; rintro e w3 ⟨rfl, hb3⟩
        have HE3 := Lib.hid (HEk.out.later hb3); clear hb3
        go_wp2_with fail
        go_roundw
        case rel => exact ⟨k + 1, by omega, by go_num, by rw [HS1.out, HN.out], by rw [HS1.out, HN.out], HE3.out⟩
        case measure => simp [intOf]; omega
    · obtain rfl : k = 3 := by omega
      go_wp2_with fail
      go_ret
      exact ⟨rfl, HEk.out.bel⟩
end Go.Proofs.YtfgcgjogaaofdaaGreatDoor
/-
  What works of the laws of chunk comes to.
-/
namespace Go.Proofs.YtfgcgjogaaofdaaGreatDoor
open Go.RowKit
theorem ex_row {W : World} {b : Nat} (h : RowIs W b (.cells #[.int .i64 1000, .int .u64 7, .int .i64 1010, .int .u64 7, .int .i64 1020, .int .u64 9] 30)) : Row 2 (sx (Ch.sm Ch.exT Ch.exV)) W (some ⟨b, 0, none⟩) 3 := by
  intro _
  refine ⟨⟨b, 0, none⟩, rfl, (Array.getElem?_eq_some_iff.1 h).1, fun i hi j hj => ?_⟩
  rw [Addr.add_lit, Nat.zero_add, cell_of_row _ _ _ _ _ _ h]
  rcases (show i = 0 ∨ i = 1 ∨ i = 2 by omega) with rfl | rfl | rfl <;> rcases (show j = 0 ∨ j = 1 by omega) with rfl | rfl <;> rfl
set_option maxRecDepth 100000 in
set_option maxHeartbeats 2000000 in
theorem works_any (w : World) (hC : ClsOk w) (hT : TabOk w) :
    Calls Tryz.prog 4 #[] w fun e w' => e = .returned (.bool true) ∧ Below w.heap.size w w' := by
  have HE := Lib.hid (Env.start hC hT)
  clear hC hT
  have hin := Ch.exin
  have p0 : Ch.put 2 Ch.exT Ch.exV 0 = (⟨#[0, 81, 83, 125, 82]⟩, 0) := by
    unfold Ch.put
    rw [show Ch.okay 2 Ch.exT 0 = true from by decide +kernel, if_pos rfl, Ch.ex0]
  have p1 := Ch.exput 1 (by omega)
  have p4 : Ch.put 4 Ch.exT Ch.exV 3 = (ByteArray.empty, 1) := by unfold Ch.put; rw [okay_four]; rfl
  have z1 := Ch.ex1
  have z3 := Ch.ex3
  have hturn := Ch.exturn
  have hg3 := Ch.exget 3 (by omega)
  have hg2 := Ch.exget2
  have hsm := Ch.exs
  have HP0 := Lib.hid (fun W hc ht => CPut_any none 0 0 (by omega) Ch.exT Ch.exV (fun i hi => absurd hi (Nat.not_lt_zero i)) (fun i hi => absurd hi (Nat.not_lt_zero i)) 2 W (fun h => absurd h (Nat.lt_irrefl 0)) hc ht)
  have HP1 := Lib.hid (fun A c W hA hc ht => CPut_any A 3 c (by omega) Ch.exT Ch.exV hin.1 hin.2 1 W hA hc ht)
  have HP4 := Lib.hid (fun A c W hA hc ht => CPut_any A 3 c (by omega) Ch.exT Ch.exV hin.1 hin.2 4 W hA hc ht)
  have HTU := Lib.hid (fun W hc ht => CTurn_any (Ch.full 1 Ch.exT Ch.exV 3) (by omega) 1 3 W hc ht)
  have HG3 := Lib.hid (fun W hc ht => CGet_any (Ch.full 3 Ch.exT Ch.exV 3) (by omega) 3 W hc ht)
  have HG2 := Lib.hid (fun W hc ht => CGet_any (Ch.full 3 Ch.exT Ch.exV 3) (by omega) 2 W hc ht)
  have HSM := Lib.hid (fun A c W hA hc ht => CSmallest_any A 3 c (by omega) Ch.exT Ch.exV hin.1 hin.2 W hA hc ht)
  rw [p0] at HP0; rw [p1] at HP1; rw [p4] at HP4; rw [hturn] at HTU; rw [hg3] at HG3; rw [hg2] at HG2; rw [hsm] at HSM
  have hsame : ∀ (A B : Option Addr) (c d : Nat) (W : World), Row 2 (sx (Ch.sm Ch.exT Ch.exV)) W A 3 → Row 2 (sx (Ch.sm (Ch.tL (Ch.lst Ch.exT Ch.exV 3)) (Ch.vL (Ch.lst Ch.exT Ch.exV 3)))) W B 3 → Calls Tryz.prog 9 #[.slice A 3 c, .slice B 3 d] W fun e w' => e = .returned (.bool true) ∧ DrewOf W w' := fun A B c d W h1 h2 =>
    rSam_any A B 3 3 c d (by omega) _ _ W h1 h2 true ⟨fun _ => ⟨rfl, fun i hi => by
      have := Ch.tL_lst Ch.exT Ch.exV 3 i hi
      show (⟨Ch.exT i, (Ch.exV i : Int)⟩ : Sam) = ⟨Ch.tL (Ch.lst Ch.exT Ch.exV 3) i, (Ch.vL (Ch.lst Ch.exT Ch.exV 3) i : Int)⟩
      rw [this.1, this.2]⟩, fun _ => rfl⟩
  have HSAME := Lib.hid hsame
  have hll : (Ch.lst Ch.exT Ch.exV 3).length = 3 := Ch.lst_length _ _ _
  generalize Ch.full 1 Ch.exT Ch.exV 3 = b1 at *
  generalize Ch.full 3 Ch.exT Ch.exV 3 = b3 at *
  clear hin p0 p1 p4 hturn hg3 hg2 hsm hsame
  go_enter Tryz.func4, Tryz.ntmps4
  go_wp2_with fail
  refine (HP0.out _ HE.out.cl HE.out.tb).mono ?_; rintro e w1 ⟨rfl, hb1⟩
  have HE1 := Lib.hid (HE.out.later hb1); clear hb1 HE HP0
  have hal : Below w1.heap.size w1 (w1.alloc (.cells #[.int .i64 1000, .int .u64 7, .int .i64 1010, .int .u64 7, .int .i64 1020, .int .u64 9] 30)) := (Below.refl _ _).alloc (Nat.le_refl _) _
  have HR2 : Hid (Row 2 (sx (Ch.sm Ch.exT Ch.exV)) (w1.alloc (.cells #[.int .i64 1000, .int .u64 7, .int .i64 1010, .int .u64 7, .int .i64 1020, .int .u64 9] 30)) (some ⟨w1.heap.size, 0, none⟩) 3) := Lib.hid (ex_row (RowIs.one _ _))
  have HE2 := Lib.hid (HE1.out.later hal)
  clear hal HE1
  go_wp2_with fail
  refine (HP1.out _ _ _ HR2.out HE2.out.cl HE2.out.tb).mono ?_; rintro e w3 ⟨rfl, hb3⟩
  have HE3 := Lib.hid (HE2.out.later hb3); have HR3 := Lib.hid (HR2.out.later hb3); clear hb3 HE2 HR2 HP1
  go_wp2_with fail
  refine (HTU.out _ HE3.out.cl HE3.out.tb).mono ?_; rintro e w4 ⟨rfl, hb4⟩
  have HE4 := Lib.hid (HE3.out.later hb4); have HR4 := Lib.hid (HR3.out.later hb4); clear hb4 HE3 HR3 HTU
  go_wp2_with fail
  refine (HG3.out _ HE4.out.cl HE4.out.tb).mono ?_; rintro e w5 ⟨A5, c5, rfl, hrow5, hb5⟩
  rw [hll] at hrow5 ⊢
  have HE5 := Lib.hid (HE4.out.later hb5); have HR5 := Lib.hid (HR4.out.later hb5); have HL5 := Lib.hid hrow5; clear hb5 hrow5 HE4 HR4 HG3
  go_wp2_with fail
  refine (HG2.out _ HE5.out.cl HE5.out.tb).mono ?_; rintro e w6 ⟨A6, c6, rfl, -, hb6⟩
  have HE6 := Lib.hid (HE5.out.later hb6); have HR6 := Lib.hid (HR5.out.later hb6); have HL6 := Lib.hid (HL5.out.later hb6); clear hb6 HE5 HR5 HL5 HG2
  go_wp2_with fail
  refine (HP4.out _ _ _ HR6.out HE6.out.cl HE6.out.tb).mono ?_; rintro e w7 ⟨rfl, hb7⟩
  have HE7 := Lib.hid (HE6.out.later hb7); have HR7 := Lib.hid (HR6.out.later hb7); have HL7 := Lib.hid (HL6.out.later hb7); clear hb7 HE6 HR6 HL6 HP4
  have q1 : ((b1.size : Int) == 60) = true := by rw [z1]; rfl
  have q3 : decide ((b3.size : Int) < 60) = true := by rw [z3]; rfl
  go_wp2_with fail
  refine (HSAME.out _ _ _ _ _ HR7.out HL7.out).mono ?_; rintro e w8 ⟨rfl, hd⟩
  have HE8 := Lib.hid (HE7.out.later hd.below); have HR8 := Lib.hid (HR7.out.later hd.below); clear hd HE7 HR7 HL7
  go_wp2_with fail
  refine (HSM.out _ _ _ HR8.out HE8.out.cl HE8.out.tb).mono ?_; rintro e w9 ⟨rfl, hb9⟩
  have HE9 := Lib.hid (HE8.out.later hb9); clear hb9
  go_wp2_with fail
  go_ret
  exact ⟨rfl, HE9.out.bel⟩
end Go.Proofs.YtfgcgjogaaofdaaGreatDoor
/-
  What is laid: the two tables; samples that came in.
-/
namespace Go.Proofs.YtfgcgjogaaofdaaGreatDoor
open Go.ChangeShapes Go.WideShapes Go.ChangeAt Go.WideMaps Go.WideElems Go.RowKit

theorem gTab : Tryz.prog.globalNamed "math/bits.deBruijn64tab" = some 1 := by kernel_rfl
theorem tTab : (Tryz.prog.globals[1]?).map (·.type) = some 152 := by kernel_rfl
theorem gCls : Tryz.prog.globalNamed "alluvium/stamp.classes" = some 0 := by kernel_rfl
theorem tCls : (Tryz.prog.globals[0]?).map (·.type) = some 123 := by kernel_rfl
def laidT : List (String × DataW Unit) := [("math/bits.deBruijn64tab", Rows.laid_math_bits_deBruijn64tab), ("alluvium/stamp.classes", Rows.laid_alluvium_stamp_classes)]
theorem tab_lits : (Rows.laid_math_bits_deBruijn64tab : DataW Unit) = .agg (Lib.deBruijn64tab.map fun (k : Nat) => .lit (.int .u8 (k : Int))) := by kernel_rfl
theorem tab_length : Lib.deBruijn64tab.length = 64 := by decide
def clsKinds : List IntKind := [.i64, .i64, .i64, .u64, .i64, .i64]
def clsRow (k : Nat) : DataW Unit := .agg [.lit (.int .i64 (St.low k)), .lit (.int .i64 (St.high k)), .lit (.int .i64 (St.plus k)), .lit (.int .u64 (St.mark k)), .lit (.int .i64 (St.marks k)), .lit (.int .i64 (St.size k))]
theorem cls_lits : (Rows.laid_alluvium_stamp_classes : DataW Unit) = .agg [clsRow 0, clsRow 1, clsRow 2, clsRow 3, clsRow 4] := by kernel_rfl
theorem tab_of {W : World} {l : List (String × DataW Unit)} (h : laidMet Tryz.prog (("math/bits.deBruijn64tab", Rows.laid_math_bits_deBruijn64tab) :: l) W) : TabOk W := by
  obtain ⟨ps, ⟨g0, t0, cs0, f0, p0, q0, hg0, ht0, hv0, hd0, _, _⟩, _, _⟩ := h
  obtain rfl := Option.some.inj (gTab.symm.trans hg0)
  obtain rfl := Option.some.inj (tTab.symm.trans ht0)
  rw [tab_lits] at hd0
  obtain ⟨xs, m1, rfl, hx1, hlen, hn3, hel⟩ := DataW.trod_array Tryz.underlying152 hd0
  have c5 : Tryz.prog.cellsOf 5 = 1 := by kernel_rfl
  simp only [Prod.mk.injEq, DataW.agg.injEq] at hx1
  intro j hj
  rw [tab_length] at hj
  have h0 := hel j hj
  rw [c5, Nat.mul_one] at h0
  have hxj : xs[j]? = some (xs[j]'(by omega)) := List.getElem?_eq_getElem (by omega)
  rw [hxj] at h0
  obtain ⟨k, e1, e2, _⟩ := DataW.trod_int Tryz.underlying5 h0
  have hm : (Lib.deBruijn64tab.map fun (k : Nat) => (DataW.lit (.int .u8 (k : Int)) : DataW Unit))[j]? = (xs.map (·.1))[j]? := by rw [hx1.1]
  rw [List.getElem?_map, List.getElem?_map, hxj, List.getElem?_eq_getElem (by rw [tab_length]; exact hj)] at hm
  simp only [Option.map_some, Option.some.injEq, e2] at hm
  have hk : k = ((Lib.deBruijn64tab.getD j 0 : Nat) : Int) := by
    simp only [DataW.lit.injEq, Lit.int.injEq, true_and] at hm
    rw [← hm]
    simp [List.getD, tab_length, hj]
  have hc := World.var?_cell hg0 hv0 j
  rw [hc]
  have hlc : j < cs0.toList.length := by
    rcases Nat.lt_or_ge j cs0.toList.length with h | h
    · exact h
    · rw [List.drop_of_length_le h] at e1; simp at e1
  rw [List.drop_eq_getElem_cons hlc] at e1
  simp at e1
  rw [Array.getElem?_eq_getElem (by simpa using hlc)]
  rw [e1, hk]
theorem cls_of {W : World} {l : List (String × DataW Unit)} (h : laidMet Tryz.prog (("alluvium/stamp.classes", Rows.laid_alluvium_stamp_classes) :: l) W) : ClsOk W := by
  obtain ⟨ps, ⟨g0, t0, cs0, f0, p0, q0, hg0, ht0, hv0, hd0, _, _⟩, _, _⟩ := h
  obtain rfl := Option.some.inj (gCls.symm.trans hg0)
  obtain rfl := Option.some.inj (tCls.symm.trans ht0)
  rw [cls_lits] at hd0
  obtain ⟨xs, m1, rfl, hx1, hlen, hn3, hel⟩ := DataW.trod_array Tryz.underlying123 hd0
  have c5 : Tryz.prog.cellsOf 122 = 6 := by kernel_rfl
  simp only [Prod.mk.injEq, DataW.agg.injEq] at hx1
  intro k hk j hj
  have h0 := hel k hk
  rw [c5] at h0
  have hxj : xs[k]? = some (xs[k]'(by omega)) := List.getElem?_eq_getElem (by omega)
  rw [hxj] at h0
  obtain ⟨z, hz, ds, hd1, hd2, hd3⟩ := struct_ints clsKinds Tryz.underlying122 rfl (fun j f hf => by
    have hj : j < 6 := by
      have := (Array.getElem?_eq_some_iff.1 hf).1
      simpa using this
    obtain rfl | rfl | rfl | rfl | rfl | rfl : j = 0 ∨ j = 1 ∨ j = 2 ∨ j = 3 ∨ j = 4 ∨ j = 5 := by omega
    all_goals
      simp at hf
      subst hf
      exact ⟨rfl, by kernel_rfl, by kernel_rfl⟩) h0
  have hm : [clsRow 0, clsRow 1, clsRow 2, clsRow 3, clsRow 4][k]? = (xs.map (·.1))[k]? := by rw [hx1.1]
  rw [List.getElem?_map, hxj] at hm
  simp only [Option.map_some, hd1] at hm
  have hrow : [clsRow 0, clsRow 1, clsRow 2, clsRow 3, clsRow 4][k]? = some (clsRow k) := by
    obtain rfl | rfl | rfl | rfl | rfl : k = 0 ∨ k = 1 ∨ k = 2 ∨ k = 3 ∨ k = 4 := by omega
    all_goals rfl
  rw [hrow] at hm
  have hds : ds = [.lit (.int .i64 (St.low k)), .lit (.int .i64 (St.high k)), .lit (.int .i64 (St.plus k)), .lit (.int .u64 (St.mark k)), .lit (.int .i64 (St.marks k)), .lit (.int .i64 (St.size k))] := by
    have := Option.some.inj hm
    unfold clsRow at this
    simp only [DataW.agg.injEq] at this
    exact this.symm
  have hz1 := (hz j hj).1
  have hz3 := hd3 j hj
  rw [hds] at hz3
  have hc := World.var?_cell hg0 hv0 (k * 6 + j)
  rw [hc]
  have hcell : cs0[k * 6 + j]? = some (.int (clsKinds.getD j .i64) (z j)) := by
    rw [← hz1, ← Array.getElem?_toList, List.getElem?_take_of_lt (show j < 6 from hj), List.getElem?_drop]
  rw [hcell]
  obtain rfl | rfl | rfl | rfl | rfl | rfl : j = 0 ∨ j = 1 ∨ j = 2 ∨ j = 3 ∨ j = 4 ∨ j = 5 := by
    have : j < 6 := hj
    omega
  all_goals
    simp [clsKinds] at hz3
    simp [clsKinds, St.cell, hz3]
theorem of_laid {W : World} (h : laidMetH Tryz.prog laidT W) : ClsOk W ∧ TabOk W := by
  rw [MakeChecks.laidMetH_plain _ _ _ (by kernel_rfl)] at h
  exact ⟨cls_of h.tail, tab_of h⟩
set_option maxRecDepth 100000 in
/-- samples that came in -/
theorem open_smp {H : Type} {enc : TypeId × Value → H} {r : Reach} {b0 : Nat} {spare : Nat → Bool} {held : Bool} {v : Value} {d : DataW H} {p : List MemPlace} {w : World}
    (hv : Value.okWide Tryz.prog w r b0 22 v) (h : DataW.Trod enc Tryz.prog w 0 spare held 22 v d p) :
    ∃ (A : Option Addr) (n c : Nat) (t : Nat → Int) (u : Nat → Nat), v = .slice A n c ∧ n ≤ maxLen ∧ Row 2 (sx (Ch.sm t u)) w A n ∧ (∀ i, i < n → St.inR (t i)) ∧ ∀ i, i < n → u i < 18446744073709551616 := by
  obtain ⟨A, n, c, s, rfl, hn, hA, hb⟩ := open_sams hv h
  refine ⟨A, n, c, fun i => (s i).t, fun i => (s i).v.toNat, rfl, hn, fun hpos => ?_, fun i hi => (hb i hi).1, fun i hi => by have := (hb i hi).2; show (s i).v.toNat < _; omega⟩
  obtain ⟨ad, e, hlt, hc⟩ := hA hpos
  refine ⟨ad, e, hlt, fun i hi j hj => ?_⟩
  rw [hc i hi j hj]
  have hv2 : (((s i).v.toNat : Nat) : Int) = (s i).v := Int.toNat_of_nonneg (hb i hi).2.1
  unfold sx
  split
  · rfl
  · show some (Value.int .u64 (s i).v) = some (Value.int .u64 (((s i).v.toNat : Nat) : Int))
    rw [hv2]
end Go.Proofs.YtfgcgjogaaofdaaGreatDoor
