/-
  The laws' fixed example: the walk.
-/
import Derived.Test.YtaillfnmaiiapaaWaXa
namespace Go.Proofs.Ytaillfnmaiiapaa
open Go.RowKit
theorem three_back (w : World) (b : Nat) (hc : w.heap[b]? = some (.cells #[.int .u8 2, .int .u8 2, .int .u8 5] 5 (0, 0))) :
    (convert 55 9 (.slice (some ⟨b, 0, none⟩) 3 3)).run Try.prog w = .ok (.string ⟨#[2, 2, 5]⟩) w := by
  have := run_convert_bytes_arg (P := Try.prog) w 55 5 Try.underlying55 Try.underlying5 b 0 3 3 [2, 2, 5] rfl (fun i hi => by
    rw [Nat.zero_add, cell_of_row w b i _ _ _ hc]
    match i, hi with
    | 0, _ => rfl
    | 1, _ => rfl
    | 2, _ => rfl) 9 Try.underlying9
  exact this
theorem begin_in {g : Int} (hg : 1 ≤ g ∧ g ≤ 3) : beginV g = .tuple #[.string (Wa.hd g), .agg #[.int .i64 g, .slice none 0 0], .int .i64 0] := by
  unfold beginV wrV
  rw [if_pos (show Wa.isG g = true from decide_eq_true hg)]
theorem begin_out {g : Int} (hg : ¬(1 ≤ g ∧ g ≤ 3)) : beginV g = .tuple #[.string ByteArray.empty, .agg #[.int .i64 0, .slice none 0 0], .int .i64 1] := by
  unfold beginV wrV
  rw [if_neg (by rw [show Wa.isG g = false from decide_eq_false hg]; simp)]
/-- a segment that was read, as the laws look at it -/
structure SegIn (U : World) (R : Wa.Sg) (A : Option Addr) (c : Nat) (B : Option Addr) (d : Nat) (q : Nat → RAt) : Prop where
  recs : RecsIn U A R.recs.length q
  list : R.recs = (List.range R.recs.length).map (recF q)
  keys : Row 1 (kx R.keys) U B R.keys.length
  none_ : B = none → R.keys.length = 0 ∧ d = 0
theorem SegIn.later {U V : World} {R : Wa.Sg} {A : Option Addr} {c : Nat} {B : Option Addr} {d : Nat} {q : Nat → RAt} (h : SegIn U R A c B d q) (hb : Below U.heap.size U V) : SegIn V R A c B d q := ⟨h.recs.later hb, h.list, h.keys.later hb, h.none_⟩
/-- Read, as the laws look at it -/
def LawRead (w : World) (R : Wa.Sg) (e : Ending) (V : World) : Prop :=
  ∃ A c B d q, e = .returned (.tuple #[.agg #[.int .i64 (R.flags : Int), .slice A R.recs.length c, .int .i64 (R.used : Int), .bool R.torn, .int .i64 (R.gen : Int), .slice B R.keys.length d], .int .i64 (R.err : Int)]) ∧ SegIn V R A c B d q ∧ Below w.heap.size w V
theorem lawRead_any (s : ByteArray) (hs : s.size ≤ 700000) (w : World) : Calls Try.prog 12 #[.string s] w (LawRead w (Wa.read s)) := by
  refine (wRead_any s hs w).mono ?_
  rintro e V ⟨lv, kv, q, rfl, hg, ho, hb⟩
  obtain ⟨A, c, rfl, h1, h2, -, hr⟩ := own_row hg.row
  obtain ⟨B, d, rfl, -, -, hn, hk⟩ := own_row ho
  exact ⟨A, c, B, d, q, rfl, ⟨⟨hr, fun i hi => (hg.each i hi).rec_, by omega⟩, hg.list, hk, hn⟩, hb⟩
/-- Put, as the laws look at it -/
def LawPut (w : World) (g : Int) (R : ByteArray × List ByteArray × Int) (e : Ending) (V : World) : Prop :=
  ∃ B d, e = .returned (.tuple #[.string R.1, .agg #[.int .i64 g, .slice B R.2.1.length d], .int .i64 R.2.2]) ∧ Row 1 (kx R.2.1) V B R.2.1.length ∧ (B = none → R.2.1.length = 0 ∧ d = 0) ∧ Below w.heap.size w V
theorem lawPut_any (g : Int) (K : List ByteArray) (hK : K.length ≤ 400000) (hks : ∀ k ∈ K, k.size ≤ maxLen) (A : Option Addr) (c : Nat) (hnone : A = none → K.length = 0 ∧ c = 0) (B : Option Addr) (n c2 : Nat) (q : Nat → RAt) (hn : n ≤ 100000) (w : World) (hA : Row 1 (kx K) w A K.length) (hB : RecsIn w B n q) :
    Calls Try.prog 14 #[.agg #[.int .i64 g, .slice A K.length c], .slice B n c2] w (LawPut w g (Wa.putR g K (recF q) n)) := by
  refine (wPut_any g K hK hks A c hnone B n c2 q hn w hA hB).mono ?_
  rintro e V ⟨kv, rfl, ho, hb⟩
  obtain ⟨B2, d, rfl, -, -, hn2, hk⟩ := own_row ho
  exact ⟨B2, d, rfl, hk, hn2, hb⟩
def qOne (r : Wa.Rec) (A : Option Addr) (c : Nat) : Nat → RAt := fun _ => ⟨r, A, c⟩
set_option maxRecDepth 100000 in
set_option maxHeartbeats 24000000 in
theorem works_any (w : World) : Calls Try.prog 8 #[] w fun e w' => e = .returned (.bool true) ∧ Below w.heap.size w w' := by
  have HBG := Lib.hid (fun (g : Int) W => Begin_any g W)
  have HRD := Lib.hid (fun (s : ByteArray) (hs : s.size ≤ 700000) W => lawRead_any s hs W)
  unfold LawRead at HRD
  obtain ⟨h2, hh2⟩ : ∃ h2, h2 = Wa.hd 2 := ⟨_, rfl⟩
  obtain ⟨h1, hh1⟩ : ∃ h1, h1 = Wa.hd 1 := ⟨_, rfl⟩
  have zh2 : h2.size = 10 := by rw [hh2]; exact Wa.hd_size 2
  have zh1 : h1.size = 10 := by rw [hh1]; exact Wa.hd_size 1
  have hB2 := begin_in (g := 2) (by decide); have hB1 := begin_in (g := 1) (by decide); have hB4 := begin_out (g := 4) (by decide)
  rw [← hh2] at hB2; rw [← hh1] at hB1
  obtain ⟨p1, p2, p3⟩ := Wa.ex2_put
  obtain ⟨a1, a2, a3, a4, a5⟩ := Wa.ex2_read
  obtain ⟨c1, c2, c3, c4⟩ := Wa.ex2_torn
  obtain ⟨s3, hs3⟩ : ∃ s3, s3 = (⟨#[2, 2, 5]⟩ : ByteArray) := ⟨_, rfl⟩
  have z3 : s3.size = 3 := by rw [hs3]; rfl
  rw [← hs3] at p3 c1 c2 c3 c4
  have HS3 := Lib.hid hs3
  clear hs3
  obtain ⟨d1, d2⟩ := Wa.ex1_put
  have e1 := Wa.ex1_read
  rw [← hh2] at a1 a2 a3 a4 a5 c1 c2 c3 c4
  rw [← hh1] at e1
  obtain ⟨R2, hR2⟩ : ∃ R2, R2 = Wa.putR 2 [] Wa.ex2 1 := ⟨_, rfl⟩
  obtain ⟨R1, hR1⟩ : ∃ R1, R1 = Wa.putR 1 [] Wa.ex1 1 := ⟨_, rfl⟩
  rw [← hR2] at p1 p2 p3 a1 a2 a3 a4 a5
  rw [← hR1] at d1 d2 e1
  have HR2 := Lib.hid hR2; have HR1 := Lib.hid hR1
  obtain ⟨s2, k2, er2⟩ := R2
  obtain ⟨s1, k1, er1⟩ := R1
  simp only at p1 p2 p3 a1 a2 a3 a4 a5 d1 d2 e1
  subst p1; subst d1
  have HE1 := Lib.hid e1
  have HA := Lib.hid (And.intro a1 (And.intro a2 (And.intro a3 (And.intro a4 a5)))); have HC := Lib.hid (And.intro c1 (And.intro c2 (And.intro c3 c4)))
  have HB2 := Lib.hid hB2; have HB1 := Lib.hid hB1; have HB4 := Lib.hid hB4
  clear hh2 hh1 hR2 hR1 e1 a1 a2 a3 a4 a5 c1 c2 c3 c4 hB2 hB1 hB4
  go_enter Try.func8, Try.ntmps8
  go_wp2_with fail
  refine (HBG.out 2 w).mono ?_; rintro e w1 ⟨rfl, hb1⟩
  rw [HB2.out]
  have HW1 := Lib.hid hb1
  clear hb1
  obtain ⟨w2, hw2⟩ : ∃ w2, w2 = w1.alloc (.cells #[.int .i64 2, .slice none 0 0] 32) := ⟨_, rfl⟩
  have hb2 : Below w1.heap.size w1 w2 := by rw [hw2]; exact (Below.refl _ _).alloc (Nat.le_refl _) _
  have hx2 : w2.heap[w1.heap.size]? = some (.cells #[.int .i64 2, .slice none 0 0] 32 (0, 0)) := by rw [hw2]; exact heap_alloc_new w1 _
  have HW2 := Lib.hid (below_step HW1.out hb2)
  have y0 := cell_of_row _ _ 0 _ _ _ hx2; have y1 := cell_of_row _ _ 1 _ _ _ hx2
  simp only [List.getElem?_toArray, List.getElem?_cons_zero, List.getElem?_cons_succ] at y0 y1
  clear hb2 hx2
  go_upto_region 2 with fail
  rw [← hw2]
  clear hw2
  have HRI : Hid (RecsIn (w2.alloc (.cells #[.int .i64 2, .slice none 0 0, .int .i64 5, .int .i64 0, .int .u64 0] 52)) (some ⟨w2.heap.size, 0, none⟩) 1 (qOne (Wa.ex2 0) none 0)) := Lib.hid ⟨row_built 5 _ w2 _ _ (fun j hj => by
    rcases (show j = 0 ∨ j = 1 ∨ j = 2 ∨ j = 3 ∨ j = 4 by omega) with rfl | rfl | rfl | rfl | rfl <;> rfl), fun i hi => ⟨fun h0 => absurd h0 (Nat.lt_irrefl 0), Nat.zero_le _, fun i hi => absurd hi (Nat.not_lt_zero i), ⟨by show (-9223372036854775808 : Int) ≤ 5; decide, by show (5 : Int) ≤ 9223372036854775807; decide, by show (-9223372036854775808 : Int) ≤ 0; decide, by show (0 : Int) ≤ 9223372036854775807; decide, by show (0 : Nat) < 18446744073709551616; decide⟩⟩, by unfold maxLen; omega⟩
  have HW3 := Lib.hid (below_step HW2.out ((Below.refl w2.heap.size w2).alloc (Nat.le_refl _) (.cells #[.int .i64 2, .slice none 0 0, .int .i64 5, .int .i64 0, .int .u64 0] 52)))
  have HPT := Lib.hid (lawPut_any 2 [] (by decide) (fun k hk => by cases hk) none 0 (fun _ => ⟨rfl, rfl⟩) (some ⟨w2.heap.size, 0, none⟩) 1 1 (qOne (Wa.ex2 0) none 0) (by decide) _ (fun h0 => absurd h0 (Nat.lt_irrefl 0)) HRI.out)
  rw [show recF (qOne (Wa.ex2 0) none 0) = Wa.ex2 from rfl, ← HR2.out] at HPT
  unfold LawPut at HPT
  clear HRI HW2
  go_wp2_with fail
  refine HPT.out.mono ?_; rintro e w4 ⟨A4, k4, rfl, -, -, hb4⟩
  have HW4 := Lib.hid (below_step HW3.out hb4)
  clear hb4 HPT HW3 y0 y1
  have hb5 : Below w4.heap.size w4 (w4.alloc (.cells #[.int .i64 2, .slice A4 k2.length k4] 32)) := (Below.refl _ _).alloc (Nat.le_refl _) _
  have HW5 := Lib.hid (below_step HW4.out hb5)
  obtain ⟨w5, hw5⟩ : ∃ w5, w5 = w4.alloc (.cells #[.int .i64 2, .slice A4 k2.length k4] 32) := ⟨_, rfl⟩
  rw [← hw5] at HW5
  have n1 : ¬ 9223372036854775807 < h2.size + s2.size := by omega
  clear hb5
  go_upto_region 3 with fail
  rw [← hw5]
  clear hw5
  go_wp2_with fail
  refine (HRD.out (h2 ++ s2) (by rw [ByteArray.size_append]; omega) w5).mono ?_; rintro e w6 ⟨A6, k6, B6, d6, q6, rfl, hs6, hb6⟩
  obtain ⟨X6, hX6⟩ : ∃ X6, X6 = Wa.read (h2 ++ s2) := ⟨_, rfl⟩
  rw [← hX6] at hs6 HA ⊢
  clear hX6
  have hb7 : Below w6.heap.size w6 (w6.alloc (.cells #[.int .i64 (X6.flags : Int), .slice A6 X6.recs.length k6, .int .i64 (X6.used : Int), .bool X6.torn, .int .i64 (X6.gen : Int), .slice B6 X6.keys.length d6] 34)) := (Below.refl _ _).alloc (Nat.le_refl _) _
  have hx7 := heap_alloc_new w6 (.cells #[.int .i64 (X6.flags : Int), .slice A6 X6.recs.length k6, .int .i64 (X6.used : Int), .bool X6.torn, .int .i64 (X6.gen : Int), .slice B6 X6.keys.length d6] 34)
  obtain ⟨w7, hw7⟩ : ∃ w7, w7 = w6.alloc (.cells #[.int .i64 (X6.flags : Int), .slice A6 X6.recs.length k6, .int .i64 (X6.used : Int), .bool X6.torn, .int .i64 (X6.gen : Int), .slice B6 X6.keys.length d6] 34) := ⟨_, rfl⟩
  rw [← hw7] at hb7 hx7
  obtain ⟨b7, hb7e⟩ : ∃ b7, b7 = w6.heap.size := ⟨_, rfl⟩
  rw [← hb7e] at hx7
  have HX7 := Lib.hid hx7; have HS7 := Lib.hid (hs6.later hb7)
  have HW7 := Lib.hid (below_step HW5.out (below_step hb6 hb7))
  clear hs6 hb6 hb7 hx7 n1
  go_upto_region 4 with fail
  rw [← hw7, ← hb7e]
  clear hw7 hb7e
  have hm3 : (min (7:Int) 3).toNat = 3 := by decide
  have hmn : min ((s2.size : Nat) : Int) 3 = 3 := by omega
  have i3 : (3 : Int) ≤ (s2.size : Int) := by omega
  have n2 : ¬ 9223372036854775807 < h2.size + s3.size := by omega
  go_wp2_with fail
  refine (HRD.out (h2 ++ s3) (by rw [ByteArray.size_append]; omega) w7).mono ?_; rintro e w8 ⟨A8, k8, B8, d8, q8, rfl, hs8, hb8⟩
  obtain ⟨X8, hX8⟩ : ∃ X8, X8 = Wa.read (h2 ++ s3) := ⟨_, rfl⟩
  rw [← hX8] at hs8 HC ⊢
  clear hX8
  have hb9 : Below w8.heap.size w8 (w8.alloc (.cells #[.int .i64 (X8.flags : Int), .slice A8 X8.recs.length k8, .int .i64 (X8.used : Int), .bool X8.torn, .int .i64 (X8.gen : Int), .slice B8 X8.keys.length d8] 34)) := (Below.refl _ _).alloc (Nat.le_refl _) _
  have hx9 := heap_alloc_new w8 (.cells #[.int .i64 (X8.flags : Int), .slice A8 X8.recs.length k8, .int .i64 (X8.used : Int), .bool X8.torn, .int .i64 (X8.gen : Int), .slice B8 X8.keys.length d8] 34)
  obtain ⟨w9, hw9⟩ : ∃ w9, w9 = w8.alloc (.cells #[.int .i64 (X8.flags : Int), .slice A8 X8.recs.length k8, .int .i64 (X8.used : Int), .bool X8.torn, .int .i64 (X8.gen : Int), .slice B8 X8.keys.length d8] 34) := ⟨_, rfl⟩
  rw [← hw9] at hb9 hx9
  have HB79 := Lib.hid (below_step hb8 hb9)
  have HX9 := Lib.hid hx9
  have l7 : b7 < w7.heap.size := by
    rcases Nat.lt_or_ge b7 w7.heap.size with h | h
    · exact h
    · have := HX7.out; rw [Array.getElem?_eq_none h] at this; cases this
  have HX7' := Lib.hid ((HB79.out.block b7 l7).trans HX7.out); have HS7' := Lib.hid (HS7.out.later HB79.out)
  have HW9 := Lib.hid (below_step HW7.out HB79.out)
  obtain ⟨b9, hb9e⟩ : ∃ b9, b9 = w8.heap.size := ⟨_, rfl⟩
  rw [← hb9e] at HX9
  clear hb8 hb9 hx9 hs8 l7 HX7 HS7 HB79 HW7 n2
  go_upto_region 5 with fail
  rw [← hw9, ← hb9e]
  clear hw9 hb9e
  go_wp2_with fail
  refine (HBG.out 4 w9).mono ?_; rintro e w10 ⟨rfl, hb10⟩
  rw [HB4.out]
  obtain ⟨wA, hwA⟩ : ∃ wA, wA = w10.alloc (.cells #[.int .i64 0, .slice none 0 0] 32) := ⟨_, rfl⟩
  replace hb10 : Below w9.heap.size w9 wA := below_step hb10 (by rw [hwA]; exact (Below.refl _ _).alloc (Nat.le_refl _) _)
  have HX7b := Lib.hid ((hb10.block b7 (by
    rcases Nat.lt_or_ge b7 w9.heap.size with h | h
    · exact h
    · have := HX7'.out; rw [Array.getElem?_eq_none h] at this; cases this)).trans HX7'.out)
  have HX9b := Lib.hid ((hb10.block b9 (by
    rcases Nat.lt_or_ge b9 w9.heap.size with h | h
    · exact h
    · have := HX9.out; rw [Array.getElem?_eq_none h] at this; cases this)).trans HX9.out)
  have HS7b := Lib.hid (HS7'.out.later hb10)
  have HW10 := Lib.hid (below_step HW9.out hb10)
  clear hb10 HX7' HX9 HS7' HW9
  go_upto_region 6 with fail
  rw [← hwA]
  clear hwA
  go_wp2_with fail
  refine (HBG.out 1 wA).mono ?_; rintro e w11 ⟨rfl, hb11⟩
  rw [HB1.out]
  obtain ⟨w12, hw12⟩ : ∃ w12, w12 = w11.alloc (.cells #[.int .i64 1, .slice none 0 0] 32) := ⟨_, rfl⟩
  have hb12 : Below w11.heap.size w11 w12 := by rw [hw12]; exact (Below.refl _ _).alloc (Nat.le_refl _) _
  have hx12 : w12.heap[w11.heap.size]? = some (.cells #[.int .i64 1, .slice none 0 0] 32 (0, 0)) := by rw [hw12]; exact heap_alloc_new w11 _
  have hb1012 := below_step hb11 hb12
  have HX7c := Lib.hid ((hb1012.block b7 (by
    rcases Nat.lt_or_ge b7 wA.heap.size with h | h
    · exact h
    · have := HX7b.out; rw [Array.getElem?_eq_none h] at this; cases this)).trans HX7b.out)
  have HX9c := Lib.hid ((hb1012.block b9 (by
    rcases Nat.lt_or_ge b9 wA.heap.size with h | h
    · exact h
    · have := HX9b.out; rw [Array.getElem?_eq_none h] at this; cases this)).trans HX9b.out)
  have HS7c := Lib.hid (HS7b.out.later hb1012)
  have HW12 := Lib.hid (below_step HW10.out hb1012)
  have y0 := cell_of_row _ _ 0 _ _ _ hx12; have y1 := cell_of_row _ _ 1 _ _ _ hx12
  simp only [List.getElem?_toArray, List.getElem?_cons_zero, List.getElem?_cons_succ] at y0 y1
  clear hb11 hb12 hx12 hb1012 HX7b HX9b HS7b HW10
  go_upto_region 7 with fail
  rw [← hw12]
  clear hw12
  obtain ⟨wL, hwL⟩ : ∃ wL, wL = w12.alloc (.cells #[.string ⟨#[97]⟩, .string ⟨#[120]⟩] 54) := ⟨_, rfl⟩
  have hbL : Below w12.heap.size w12 wL := by rw [hwL]; exact (Below.refl _ _).alloc (Nat.le_refl _) _
  have hLr : Row 2 (lx (La.at_ Wa.exL)) wL (some ⟨w12.heap.size, 0, none⟩) 1 := by
    rw [hwL]
    exact row_built 2 _ w12 _ _ (fun j hj => by
      rcases (show j = 0 ∨ j = 1 by omega) with rfl | rfl <;> rfl)
  have hLz : wL.heap.size = w12.heap.size + 1 := by rw [hwL]; exact Array.size_push ..
  obtain ⟨bL, hbLe⟩ : ∃ bL, bL = w12.heap.size := ⟨_, rfl⟩
  obtain ⟨wR, hwR⟩ : ∃ wR, wR = wL.alloc (.cells #[.int .i64 0, .slice (some ⟨bL, 0, none⟩) 1 1, .int .i64 1, .int .i64 0, .int .u64 2] 52) := ⟨_, rfl⟩
  have hbR : Below wL.heap.size wL wR := by rw [hwR]; exact (Below.refl _ _).alloc (Nat.le_refl _) _
  rw [← hbLe] at hLr hLz
  have HRI : Hid (RecsIn wR (some ⟨bL + 1, 0, none⟩) 1 (qOne (Wa.ex1 0) (some ⟨bL, 0, none⟩) 1)) := Lib.hid ⟨by
    rw [← hLz, hwR]
    exact row_built 5 _ wL _ _ (fun j hj => by
      rcases (show j = 0 ∨ j = 1 ∨ j = 2 ∨ j = 3 ∨ j = 4 by omega) with rfl | rfl | rfl | rfl | rfl <;> rfl), fun i hi => ⟨LabRow.of_row (hLr.later hbR), (by show Wa.exL.length ≤ 10; decide), fun i hi => (by
        obtain rfl : i = 0 := by have : i < 1 := hi; omega
        exact (show (La.at_ Wa.exL 0).1.size ≤ 300 ∧ (La.at_ Wa.exL 0).2.size ≤ 300 by decide)), Wa.ex1_words⟩, by unfold maxLen; omega⟩
  have HW13 := Lib.hid (below_step HW12.out (below_step hbL hbR))
  have HX7d := Lib.hid (((below_step hbL hbR).block b7 (by
    rcases Nat.lt_or_ge b7 w12.heap.size with h | h
    · exact h
    · have := HX7c.out; rw [Array.getElem?_eq_none h] at this; cases this)).trans HX7c.out)
  have HX9d := Lib.hid (((below_step hbL hbR).block b9 (by
    rcases Nat.lt_or_ge b9 w12.heap.size with h | h
    · exact h
    · have := HX9c.out; rw [Array.getElem?_eq_none h] at this; cases this)).trans HX9c.out)
  have HS7d := Lib.hid (HS7c.out.later (below_step hbL hbR))
  have HPT := Lib.hid (lawPut_any 1 [] (by decide) (fun k hk => by cases hk) none 0 (fun _ => ⟨rfl, rfl⟩) (some ⟨bL + 1, 0, none⟩) 1 1 (qOne (Wa.ex1 0) (some ⟨bL, 0, none⟩) 1) (by decide) _ (fun h0 => absurd h0 (Nat.lt_irrefl 0)) HRI.out)
  rw [show recF (qOne (Wa.ex1 0) (some ⟨bL, 0, none⟩) 1) = Wa.ex1 from rfl, ← HR1.out] at HPT
  unfold LawPut at HPT
  clear HRI HW12 hbL hLr hLz hbR HX7c HX9c HS7c
  go_wp2_with fail
  rw [← hwL, ← hbLe, ← hwR]
  refine HPT.out.mono ?_; rintro e w14 ⟨A14, k14, rfl, -, -, hb14⟩
  clear hwL hbLe hwR HPT y0 y1
  obtain ⟨w15, hw15⟩ : ∃ w15, w15 = w14.alloc (.cells #[.int .i64 1, .slice A14 k1.length k14] 32) := ⟨_, rfl⟩
  have hb15 : Below wR.heap.size wR w15 := below_step hb14 (by rw [hw15]; exact (Below.refl _ _).alloc (Nat.le_refl _) _)
  have HX7e := Lib.hid ((hb15.block b7 (by
    rcases Nat.lt_or_ge b7 wR.heap.size with h | h
    · exact h
    · have := HX7d.out; rw [Array.getElem?_eq_none h] at this; cases this)).trans HX7d.out)
  have HX9e := Lib.hid ((hb15.block b9 (by
    rcases Nat.lt_or_ge b9 wR.heap.size with h | h
    · exact h
    · have := HX9d.out; rw [Array.getElem?_eq_none h] at this; cases this)).trans HX9d.out)
  have HS7e := Lib.hid (HS7d.out.later hb15)
  have HW15 := Lib.hid (below_step HW13.out hb15)
  have n3 : ¬ 9223372036854775807 < h1.size + s1.size := by omega
  clear hb14 hb15 HX7d HX9d HS7d HW13
  go_upto_region 8 with fail
  rw [← hw15]
  clear hw15
  go_wp2_with fail
  refine (HRD.out (h1 ++ s1) (by rw [ByteArray.size_append]; omega) w15).mono ?_; rintro e w16 ⟨A16, k16, B16, d16, q16, rfl, hs16, hb16⟩
  obtain ⟨X16, hX16⟩ : ∃ X16, X16 = Wa.read (h1 ++ s1) := ⟨_, rfl⟩
  rw [← hX16] at hs16 HE1 ⊢
  clear hX16
  have HF : Hid (X16.err = 0 ∧ X16.recs = [Wa.ex1 0]) := Lib.hid (by rw [HE1.out]; exact ⟨rfl, rfl⟩)
  obtain ⟨w17, hw17⟩ : ∃ w17, w17 = w16.alloc (.cells #[.int .i64 (X16.flags : Int), .slice A16 X16.recs.length k16, .int .i64 (X16.used : Int), .bool X16.torn, .int .i64 (X16.gen : Int), .slice B16 X16.keys.length d16] 34) := ⟨_, rfl⟩
  have hx17 : w17.heap[w16.heap.size]? = some (.cells #[.int .i64 (X16.flags : Int), .slice A16 X16.recs.length k16, .int .i64 (X16.used : Int), .bool X16.torn, .int .i64 (X16.gen : Int), .slice B16 X16.keys.length d16] 34 (0, 0)) := by rw [hw17]; exact heap_alloc_new w16 _
  have hb17 : Below w16.heap.size w16 w17 := by rw [hw17]; exact (Below.refl _ _).alloc (Nat.le_refl _) _
  have HS17 := Lib.hid (hs16.later hb17)
  have hb1517 := below_step hb16 hb17
  have HX7f := Lib.hid ((hb1517.block b7 (by
    rcases Nat.lt_or_ge b7 w15.heap.size with h | h
    · exact h
    · have := HX7e.out; rw [Array.getElem?_eq_none h] at this; cases this)).trans HX7e.out)
  have HX9f := Lib.hid ((hb1517.block b9 (by
    rcases Nat.lt_or_ge b9 w15.heap.size with h | h
    · exact h
    · have := HX9e.out; rw [Array.getElem?_eq_none h] at this; cases this)).trans HX9e.out)
  have HS7f := Lib.hid (HS7e.out.later hb1517)
  have HW17 := Lib.hid (below_step HW15.out hb1517)
  obtain ⟨b17, hb17e⟩ : ∃ b17, b17 = w16.heap.size := ⟨_, rfl⟩
  rw [← hb17e] at hx17
  have HX17 := Lib.hid hx17
  clear hs16 hb16 hb17 hx17 hb1517 HX7e HX9e HS7e HW15 HE1 n3
  go_upto_region 9 with fail
  rw [← hw17, ← hb17e]
  clear hw17 hb17e
  obtain ⟨f1, f2⟩ := HF.out
  obtain ⟨g1, g2, g3, g4, g5⟩ := HA.out
  obtain ⟨c1, c2, c3, c4⟩ := HC.out
  have f3 : X16.recs.length = 1 := by rw [f2]; rfl
  have t6 : (q6 0).r.t = 5 := by
    have h := HS7f.out.list
    rw [g2] at h
    rw [h] at g3
    simpa [recF, List.range_succ] using g3
  have t17 : (q16 0).r.v = 2 := by
    have h := HS17.out.list
    rw [f3, f2] at h
    have h2 : Wa.ex1 0 = recF q16 0 := by simpa [List.range_succ] using h
    show (recF q16 0).v = 2
    rw [← h2]; rfl
  obtain ⟨ad6, eA6, -, -, -, -, -⟩ := HS7f.out.recs.cells (Below.refl _ _) (k := 0) (by omega)
  obtain ⟨ad16, eA16, -, -, -, -, -⟩ := HS17.out.recs.cells (Below.refl _ _) (k := 0) (by omega)
  have HO6 : Hid (∀ U, Below w17.heap.size w17 U → U.cell? ⟨ad6.block, ad6.off + 2, none⟩ = some (.int .i64 5)) := Lib.hid (fun U hU => by
    obtain ⟨ad, e, -, -, h, -, -⟩ := HS7f.out.recs.cells hU (k := 0) (by omega)
    rw [eA6] at e; cases e
    rw [t6] at h; exact h)
  have HO16 : Hid (∀ U, Below w17.heap.size w17 U → U.cell? ⟨ad16.block, ad16.off + 4, none⟩ = some (.int .u64 2)) := Lib.hid (fun U hU => by
    obtain ⟨ad, e, -, -, -, -, h⟩ := HS17.out.recs.cells hU (k := 0) (by omega)
    rw [eA16] at e; cases e
    rw [t17] at h; exact h)
  have u7 := HX7f.out; have u9 := HX9f.out; have u17 := HX17.out
  rw [eA6, g2, g4, g5] at u7
  rw [c2, c3, c4] at u9
  rw [eA16, f3] at u17
  have HU7 := Lib.hid u7; have HU9 := Lib.hid u9; have HU17 := Lib.hid u17
  rw [f1, g1, c1]
  clear HF HA HC HS7f HS17 HX7f HX9f HX17 u7 u9 u17 f1 g1 c1 c2 c3 c4 f3 g2 g3 g4 g5 f2 eA6 eA16 t6 t17 hm3 hmn HR2 HR1 HB1 HB2 HB4 HBG HRD
  have HT3 : Hid (∀ U b, U.heap[b]? = some (.cells #[.int .u8 2, .int .u8 2, .int .u8 5] 5 (0, 0)) → (convert 55 9 (.slice (some ⟨b, 0, none⟩) 3 3)).run Try.prog U = .ok (.string s3) U) := Lib.hid (fun U b h => by rw [HS3.out]; exact three_back U b h)
  clear HS3
  have i17 : IntKind.i64.wrap 17 = 17 := by decide
  go_wp2_with fail
  refine plain_robJ [(0, some 80), (1, some 81), (2, some 82), (3, some 83), (4, some 84), (5, some 85), (6, some 86), (7, some 87), (8, some 88), (9, some 89), (10, some 90), (11, some 91), (12, some 92), (13, some 93), (14, some 94), (15, some 95), (16, some 96), (17, some 97), (18, some 98), (19, some 99), (20, some 100), (21, some 101), (22, some 102), (23, some 103), (24, some 104), (25, some 105), (26, some 106), (27, some 107), (28, some 108), (29, some 109), (30, some 110), (31, some 111), (32, some 112), (33, some 113), (34, some 114), (35, some 115), (36, some 116), (37, some 117), (38, some 118), (39, some 119), (40, some 120), (41, some 121), (42, some 122), (43, some 123), (44, some 124), (45, some 125), (46, some 126), (47, some 127), (48, some 128), (49, some 129), (50, some 130), (51, some 131), (52, some 132), (53, some 133), (54, some 134), (55, some 135), (56, some 136), (57, some 137), (58, some 138), (59, some 139), (60, some 140), (61, some 141), (62, some 142), (63, some 143), (64, some 144), (65, some 145), (66, some 146), (67, some 147), (68, some 148), (69, some 149), (70, some 150), (71, some 151), (72, some 152), (73, some 153), (74, some 154), (75, some 155), (76, some 156), (77, some 157), (78, some 158), (79, some 159), (80, some 160), (81, some 161), (82, some 162), (83, some 163), (84, some 164), (85, some 165), (86, some 166), (87, some 167), (88, some 168), (89, some 169), (90, some 170), (91, some 171), (92, some 172), (93, some 173), (94, some 174), (95, some 175), (96, some 176), (97, some 177), (98, some 178), (99, some 179), (100, some 180), (101, some 181), (102, some 182), (103, some 183), (104, some 184), (105, some 0)] [] (fun U V => Below U.heap.size U V) (fun U => Below w17.heap.size w17 U) [(0, .int .i64 0), (1, .bool true), (2, .bool true), (3, .int .i64 0), (4, .bool true), (5, .bool true), (6, .bool true), (7, .int .i64 0), (8, .bool true), (9, .bool true), (10, .bool true), (11, .int .i64 0), (12, .bool true), (13, .bool true), (14, .bool true), (15, .int .i64 0), (16, .bool true), (17, .bool true), (18, .bool true), (19, .int .i64 0), (20, .bool true), (21, .bool true), (22, .bool true), (23, .int .i64 0), (24, .bool true), (25, .bool true), (26, .bool true), (27, .int .i64 1), (28, .bool true), (29, .bool true), (30, .bool true), (31, .string s2), (32, .int .i64 7), (33, .bool true), (34, .bool true), (35, .bool true), (36, .string s2), (37, .string s3), (39, .string s3), (40, .bool true), (41, .bool true), (42, .bool true), (43, .pointer (some ⟨b7, 1, none⟩)), (44, .slice (some ad6) 1 k6), (45, .int .i64 1), (46, .bool true), (47, .bool true), (48, .bool true), (49, .pointer (some ⟨b7, 1, none⟩)), (50, .slice (some ad6) 1 k6), (51, .pointer (some (ad6.add (0 * 5)))), (52, .pointer (some ⟨ad6.block, ad6.off + 2, none⟩)), (53, .int .i64 5), (54, .bool true), (55, .bool true), (56, .bool true), (57, .pointer (some ⟨b7, 3, none⟩)), (58, .bool false), (59, .bool true), (60, .bool true), (61, .bool true), (62, .pointer (some ⟨b7, 2, none⟩)), (63, .int .i64 17), (64, .string h2), (65, .int .i64 10), (66, .int .i64 17), (67, .bool true), (68, .bool true), (69, .bool true), (70, .pointer (some ⟨b9, 1, none⟩)), (71, .slice A8 0 k8), (72, .int .i64 0), (73, .bool true), (74, .bool true), (75, .bool true), (76, .pointer (some ⟨b9, 3, none⟩)), (77, .bool true), (78, .bool true), (79, .bool true), (80, .pointer (some ⟨b9, 2, none⟩)), (81, .int .i64 10), (82, .string h2), (83, .int .i64 10), (84, .bool true), (85, .bool true), (86, .bool true), (87, .string s1), (88, .int .i64 186), (89, .bool true), (90, .bool true), (91, .bool true), (92, .pointer (some ⟨b17, 1, none⟩)), (93, .slice (some ad16) 1 k16), (94, .int .i64 1), (95, .bool true), (96, .bool true), (97, .bool true), (98, .pointer (some ⟨b17, 1, none⟩)), (99, .slice (some ad16) 1 k16), (100, .pointer (some (ad16.add (0 * 5)))), (101, .pointer (some ⟨ad16.block, ad16.off + 4, none⟩)), (102, .int .u64 2), (103, .bool true), (104, .bool true), (105, .bool true)] [(38, (fun x W => ∃ b, x = .slice (some ⟨b, 0, none⟩) 3 3 ∧ W.heap[b]? = some (.cells #[.int .u8 2, .int .u8 2, .int .u8 5] 5 (0, 0)) : Value → World → Prop))] 0 (by kernel_rfl) (by kernel_rfl) (by kernel_rfl) ((Below.refl _ _).drew) (fun U V h hb => h.trans (hb.mono h.size)) ?_ ?_ ?_
  · intro p hp
    simp only [List.mem_cons, List.not_mem_nil, or_false] at hp
    subst hp
    exact fun x U V h hb => by obtain ⟨b, e, hc⟩ := h; exact ⟨b, e, heap_keep hc hb⟩
  · refine ⟨⟨_, rfl, fun ν U hU hp => ?_⟩, ?_⟩
    · simp only [putsν, Act.put, List.setIfInBounds_toArray, List.set_cons_zero, List.set_cons_succ]
      exact Yld.value (.int .i64 0) U (by kernel_rfl) (by go_simp) ⟨Below.refl _ _, Fx.fixed rfl rfl⟩
    refine ⟨⟨_, rfl, fun ν U hU hp => ?_⟩, ?_⟩
    · simp only [putsν, Act.put, List.setIfInBounds_toArray, List.set_cons_zero, List.set_cons_succ]
      have e0 := (hp 0 (by kernel_rfl) (by kernel_rfl)).val _ rfl
      simp only [e0]
      exact Yld.value (.bool true) U (by kernel_rfl) (by go_simp) ⟨Below.refl _ _, Fx.fixed rfl rfl⟩
    refine ⟨⟨_, rfl, fun ν U hU hp => ?_⟩, ?_⟩
    · simp only [putsν, Act.put, List.setIfInBounds_toArray, List.set_cons_zero, List.set_cons_succ]
      have e1 := (hp 1 (by kernel_rfl) (by kernel_rfl)).val _ rfl
      simp only [e1]
      exact Yld.value (.bool true) U (by kernel_rfl) (by go_simp) ⟨Below.refl _ _, Fx.fixed rfl rfl⟩
    refine ⟨⟨_, rfl, fun ν U hU hp => ?_⟩, ?_⟩
    · simp only [putsν, Act.put, List.setIfInBounds_toArray, List.set_cons_zero, List.set_cons_succ]
      have e2 := (hp 2 (by kernel_rfl) (by kernel_rfl)).val _ rfl
      simp only [e2]
      exact Yld.value (.int .i64 0) U (by kernel_rfl) (by go_simp) ⟨Below.refl _ _, Fx.fixed rfl rfl⟩
    refine ⟨⟨_, rfl, fun ν U hU hp => ?_⟩, ?_⟩
    · simp only [putsν, Act.put, List.setIfInBounds_toArray, List.set_cons_zero, List.set_cons_succ]
      have e2 := (hp 2 (by kernel_rfl) (by kernel_rfl)).val _ rfl
      have e3 := (hp 3 (by kernel_rfl) (by kernel_rfl)).val _ rfl
      simp only [e2, e3]
      exact Yld.value (.bool true) U (by kernel_rfl) (by go_simp) ⟨Below.refl _ _, Fx.fixed rfl rfl⟩
    refine ⟨⟨_, rfl, fun ν U hU hp => ?_⟩, ?_⟩
    · simp only [putsν, Act.put, List.setIfInBounds_toArray, List.set_cons_zero, List.set_cons_succ]
      have e2 := (hp 2 (by kernel_rfl) (by kernel_rfl)).val _ rfl
      have e4 := (hp 4 (by kernel_rfl) (by kernel_rfl)).val _ rfl
      simp only [e2, e4]
      exact Yld.value (.bool true) U (by kernel_rfl) (by go_simp) ⟨Below.refl _ _, Fx.fixed rfl rfl⟩
    refine ⟨⟨_, rfl, fun ν U hU hp => ?_⟩, ?_⟩
    · simp only [putsν, Act.put, List.setIfInBounds_toArray, List.set_cons_zero, List.set_cons_succ]
      have e5 := (hp 5 (by kernel_rfl) (by kernel_rfl)).val _ rfl
      simp only [e5]
      exact Yld.value (.bool true) U (by kernel_rfl) (by go_simp) ⟨Below.refl _ _, Fx.fixed rfl rfl⟩
    refine ⟨⟨_, rfl, fun ν U hU hp => ?_⟩, ?_⟩
    · simp only [putsν, Act.put, List.setIfInBounds_toArray, List.set_cons_zero, List.set_cons_succ]
      have e6 := (hp 6 (by kernel_rfl) (by kernel_rfl)).val _ rfl
      simp only [e6]
      exact Yld.value (.int .i64 0) U (by kernel_rfl) (by go_simp) ⟨Below.refl _ _, Fx.fixed rfl rfl⟩
    refine ⟨⟨_, rfl, fun ν U hU hp => ?_⟩, ?_⟩
    · simp only [putsν, Act.put, List.setIfInBounds_toArray, List.set_cons_zero, List.set_cons_succ]
      have e6 := (hp 6 (by kernel_rfl) (by kernel_rfl)).val _ rfl
      have e7 := (hp 7 (by kernel_rfl) (by kernel_rfl)).val _ rfl
      simp only [e6, e7]
      exact Yld.value (.bool true) U (by kernel_rfl) (by go_simp) ⟨Below.refl _ _, Fx.fixed rfl rfl⟩
    refine ⟨⟨_, rfl, fun ν U hU hp => ?_⟩, ?_⟩
    · simp only [putsν, Act.put, List.setIfInBounds_toArray, List.set_cons_zero, List.set_cons_succ]
      have e6 := (hp 6 (by kernel_rfl) (by kernel_rfl)).val _ rfl
      have e8 := (hp 8 (by kernel_rfl) (by kernel_rfl)).val _ rfl
      simp only [e6, e8]
      exact Yld.value (.bool true) U (by kernel_rfl) (by go_simp) ⟨Below.refl _ _, Fx.fixed rfl rfl⟩
    refine ⟨⟨_, rfl, fun ν U hU hp => ?_⟩, ?_⟩
    · simp only [putsν, Act.put, List.setIfInBounds_toArray, List.set_cons_zero, List.set_cons_succ]
      have e9 := (hp 9 (by kernel_rfl) (by kernel_rfl)).val _ rfl
      simp only [e9]
      exact Yld.value (.bool true) U (by kernel_rfl) (by go_simp) ⟨Below.refl _ _, Fx.fixed rfl rfl⟩
    refine ⟨⟨_, rfl, fun ν U hU hp => ?_⟩, ?_⟩
    · simp only [putsν, Act.put, List.setIfInBounds_toArray, List.set_cons_zero, List.set_cons_succ]
      have e10 := (hp 10 (by kernel_rfl) (by kernel_rfl)).val _ rfl
      simp only [e10]
      exact Yld.value (.int .i64 0) U (by kernel_rfl) (by go_simp) ⟨Below.refl _ _, Fx.fixed rfl rfl⟩
    refine ⟨⟨_, rfl, fun ν U hU hp => ?_⟩, ?_⟩
    · simp only [putsν, Act.put, List.setIfInBounds_toArray, List.set_cons_zero, List.set_cons_succ]
      have e10 := (hp 10 (by kernel_rfl) (by kernel_rfl)).val _ rfl
      have e11 := (hp 11 (by kernel_rfl) (by kernel_rfl)).val _ rfl
      simp only [e10, e11]
      exact Yld.value (.bool true) U (by kernel_rfl) (by go_simp) ⟨Below.refl _ _, Fx.fixed rfl rfl⟩
    refine ⟨⟨_, rfl, fun ν U hU hp => ?_⟩, ?_⟩
    · simp only [putsν, Act.put, List.setIfInBounds_toArray, List.set_cons_zero, List.set_cons_succ]
      have e10 := (hp 10 (by kernel_rfl) (by kernel_rfl)).val _ rfl
      have e12 := (hp 12 (by kernel_rfl) (by kernel_rfl)).val _ rfl
      simp only [e10, e12]
      exact Yld.value (.bool true) U (by kernel_rfl) (by go_simp) ⟨Below.refl _ _, Fx.fixed rfl rfl⟩
    refine ⟨⟨_, rfl, fun ν U hU hp => ?_⟩, ?_⟩
    · simp only [putsν, Act.put, List.setIfInBounds_toArray, List.set_cons_zero, List.set_cons_succ]
      have e13 := (hp 13 (by kernel_rfl) (by kernel_rfl)).val _ rfl
      simp only [e13]
      exact Yld.value (.bool true) U (by kernel_rfl) (by go_simp) ⟨Below.refl _ _, Fx.fixed rfl rfl⟩
    refine ⟨⟨_, rfl, fun ν U hU hp => ?_⟩, ?_⟩
    · simp only [putsν, Act.put, List.setIfInBounds_toArray, List.set_cons_zero, List.set_cons_succ]
      have e14 := (hp 14 (by kernel_rfl) (by kernel_rfl)).val _ rfl
      simp only [e14]
      exact Yld.value (.int .i64 0) U (by kernel_rfl) (by go_simp) ⟨Below.refl _ _, Fx.fixed rfl rfl⟩
    refine ⟨⟨_, rfl, fun ν U hU hp => ?_⟩, ?_⟩
    · simp only [putsν, Act.put, List.setIfInBounds_toArray, List.set_cons_zero, List.set_cons_succ]
      have e14 := (hp 14 (by kernel_rfl) (by kernel_rfl)).val _ rfl
      have e15 := (hp 15 (by kernel_rfl) (by kernel_rfl)).val _ rfl
      simp only [e14, e15]
      exact Yld.value (.bool true) U (by kernel_rfl) (by go_simp) ⟨Below.refl _ _, Fx.fixed rfl rfl⟩
    refine ⟨⟨_, rfl, fun ν U hU hp => ?_⟩, ?_⟩
    · simp only [putsν, Act.put, List.setIfInBounds_toArray, List.set_cons_zero, List.set_cons_succ]
      have e14 := (hp 14 (by kernel_rfl) (by kernel_rfl)).val _ rfl
      have e16 := (hp 16 (by kernel_rfl) (by kernel_rfl)).val _ rfl
      simp only [e14, e16]
      exact Yld.value (.bool true) U (by kernel_rfl) (by go_simp) ⟨Below.refl _ _, Fx.fixed rfl rfl⟩
    refine ⟨⟨_, rfl, fun ν U hU hp => ?_⟩, ?_⟩
    · simp only [putsν, Act.put, List.setIfInBounds_toArray, List.set_cons_zero, List.set_cons_succ]
      have e17 := (hp 17 (by kernel_rfl) (by kernel_rfl)).val _ rfl
      simp only [e17]
      exact Yld.value (.bool true) U (by kernel_rfl) (by go_simp) ⟨Below.refl _ _, Fx.fixed rfl rfl⟩
    refine ⟨⟨_, rfl, fun ν U hU hp => ?_⟩, ?_⟩
    · simp only [putsν, Act.put, List.setIfInBounds_toArray, List.set_cons_zero, List.set_cons_succ]
      have e18 := (hp 18 (by kernel_rfl) (by kernel_rfl)).val _ rfl
      simp only [e18]
      exact Yld.value (.int .i64 0) U (by kernel_rfl) (by go_simp) ⟨Below.refl _ _, Fx.fixed rfl rfl⟩
    refine ⟨⟨_, rfl, fun ν U hU hp => ?_⟩, ?_⟩
    · simp only [putsν, Act.put, List.setIfInBounds_toArray, List.set_cons_zero, List.set_cons_succ]
      have e18 := (hp 18 (by kernel_rfl) (by kernel_rfl)).val _ rfl
      have e19 := (hp 19 (by kernel_rfl) (by kernel_rfl)).val _ rfl
      simp only [e18, e19]
      exact Yld.value (.bool true) U (by kernel_rfl) (by go_simp) ⟨Below.refl _ _, Fx.fixed rfl rfl⟩
    refine ⟨⟨_, rfl, fun ν U hU hp => ?_⟩, ?_⟩
    · simp only [putsν, Act.put, List.setIfInBounds_toArray, List.set_cons_zero, List.set_cons_succ]
      have e18 := (hp 18 (by kernel_rfl) (by kernel_rfl)).val _ rfl
      have e20 := (hp 20 (by kernel_rfl) (by kernel_rfl)).val _ rfl
      simp only [e18, e20]
      exact Yld.value (.bool true) U (by kernel_rfl) (by go_simp) ⟨Below.refl _ _, Fx.fixed rfl rfl⟩
    refine ⟨⟨_, rfl, fun ν U hU hp => ?_⟩, ?_⟩
    · simp only [putsν, Act.put, List.setIfInBounds_toArray, List.set_cons_zero, List.set_cons_succ]
      have e21 := (hp 21 (by kernel_rfl) (by kernel_rfl)).val _ rfl
      simp only [e21]
      exact Yld.value (.bool true) U (by kernel_rfl) (by go_simp) ⟨Below.refl _ _, Fx.fixed rfl rfl⟩
    refine ⟨⟨_, rfl, fun ν U hU hp => ?_⟩, ?_⟩
    · simp only [putsν, Act.put, List.setIfInBounds_toArray, List.set_cons_zero, List.set_cons_succ]
      have e22 := (hp 22 (by kernel_rfl) (by kernel_rfl)).val _ rfl
      simp only [e22]
      exact Yld.value (.int .i64 0) U (by kernel_rfl) (by go_simp) ⟨Below.refl _ _, Fx.fixed rfl rfl⟩
    refine ⟨⟨_, rfl, fun ν U hU hp => ?_⟩, ?_⟩
    · simp only [putsν, Act.put, List.setIfInBounds_toArray, List.set_cons_zero, List.set_cons_succ]
      have e22 := (hp 22 (by kernel_rfl) (by kernel_rfl)).val _ rfl
      have e23 := (hp 23 (by kernel_rfl) (by kernel_rfl)).val _ rfl
      simp only [e22, e23]
      exact Yld.value (.bool true) U (by kernel_rfl) (by go_simp) ⟨Below.refl _ _, Fx.fixed rfl rfl⟩
    refine ⟨⟨_, rfl, fun ν U hU hp => ?_⟩, ?_⟩
    · simp only [putsν, Act.put, List.setIfInBounds_toArray, List.set_cons_zero, List.set_cons_succ]
      have e22 := (hp 22 (by kernel_rfl) (by kernel_rfl)).val _ rfl
      have e24 := (hp 24 (by kernel_rfl) (by kernel_rfl)).val _ rfl
      simp only [e22, e24]
      exact Yld.value (.bool true) U (by kernel_rfl) (by go_simp) ⟨Below.refl _ _, Fx.fixed rfl rfl⟩
    refine ⟨⟨_, rfl, fun ν U hU hp => ?_⟩, ?_⟩
    · simp only [putsν, Act.put, List.setIfInBounds_toArray, List.set_cons_zero, List.set_cons_succ]
      have e25 := (hp 25 (by kernel_rfl) (by kernel_rfl)).val _ rfl
      simp only [e25]
      exact Yld.value (.bool true) U (by kernel_rfl) (by go_simp) ⟨Below.refl _ _, Fx.fixed rfl rfl⟩
    refine ⟨⟨_, rfl, fun ν U hU hp => ?_⟩, ?_⟩
    · simp only [putsν, Act.put, List.setIfInBounds_toArray, List.set_cons_zero, List.set_cons_succ]
      have e26 := (hp 26 (by kernel_rfl) (by kernel_rfl)).val _ rfl
      simp only [e26]
      exact Yld.value (.int .i64 1) U (by kernel_rfl) (by go_simp) ⟨Below.refl _ _, Fx.fixed rfl rfl⟩
    refine ⟨⟨_, rfl, fun ν U hU hp => ?_⟩, ?_⟩
    · simp only [putsν, Act.put, List.setIfInBounds_toArray, List.set_cons_zero, List.set_cons_succ]
      have e26 := (hp 26 (by kernel_rfl) (by kernel_rfl)).val _ rfl
      have e27 := (hp 27 (by kernel_rfl) (by kernel_rfl)).val _ rfl
      simp only [e26, e27]
      exact Yld.value (.bool true) U (by kernel_rfl) (by go_simp) ⟨Below.refl _ _, Fx.fixed rfl rfl⟩
    refine ⟨⟨_, rfl, fun ν U hU hp => ?_⟩, ?_⟩
    · simp only [putsν, Act.put, List.setIfInBounds_toArray, List.set_cons_zero, List.set_cons_succ]
      have e26 := (hp 26 (by kernel_rfl) (by kernel_rfl)).val _ rfl
      have e28 := (hp 28 (by kernel_rfl) (by kernel_rfl)).val _ rfl
      simp only [e26, e28]
      exact Yld.value (.bool true) U (by kernel_rfl) (by go_simp) ⟨Below.refl _ _, Fx.fixed rfl rfl⟩
    refine ⟨⟨_, rfl, fun ν U hU hp => ?_⟩, ?_⟩
    · simp only [putsν, Act.put, List.setIfInBounds_toArray, List.set_cons_zero, List.set_cons_succ]
      have e29 := (hp 29 (by kernel_rfl) (by kernel_rfl)).val _ rfl
      simp only [e29]
      exact Yld.value (.bool true) U (by kernel_rfl) (by go_simp) ⟨Below.refl _ _, Fx.fixed rfl rfl⟩
    refine ⟨⟨_, rfl, fun ν U hU hp => ?_⟩, ?_⟩
    · simp only [putsν, Act.put, List.setIfInBounds_toArray, List.set_cons_zero, List.set_cons_succ]
      have e30 := (hp 30 (by kernel_rfl) (by kernel_rfl)).val _ rfl
      simp only [e30]
      exact Yld.value (.string s2) U (by kernel_rfl) (by go_simp) ⟨Below.refl _ _, Fx.fixed rfl rfl⟩
    refine ⟨⟨_, rfl, fun ν U hU hp => ?_⟩, ?_⟩
    · simp only [putsν, Act.put, List.setIfInBounds_toArray, List.set_cons_zero, List.set_cons_succ]
      have e30 := (hp 30 (by kernel_rfl) (by kernel_rfl)).val _ rfl
      have e31 := (hp 31 (by kernel_rfl) (by kernel_rfl)).val _ rfl
      simp only [e30, e31]
      exact Yld.value (.int .i64 7) U (by kernel_rfl) (by go_simp) ⟨Below.refl _ _, Fx.fixed rfl rfl⟩
    refine ⟨⟨_, rfl, fun ν U hU hp => ?_⟩, ?_⟩
    · simp only [putsν, Act.put, List.setIfInBounds_toArray, List.set_cons_zero, List.set_cons_succ]
      have e30 := (hp 30 (by kernel_rfl) (by kernel_rfl)).val _ rfl
      have e32 := (hp 32 (by kernel_rfl) (by kernel_rfl)).val _ rfl
      simp only [e30, e32]
      exact Yld.value (.bool true) U (by kernel_rfl) (by go_simp) ⟨Below.refl _ _, Fx.fixed rfl rfl⟩
    refine ⟨⟨_, rfl, fun ν U hU hp => ?_⟩, ?_⟩
    · simp only [putsν, Act.put, List.setIfInBounds_toArray, List.set_cons_zero, List.set_cons_succ]
      have e30 := (hp 30 (by kernel_rfl) (by kernel_rfl)).val _ rfl
      have e33 := (hp 33 (by kernel_rfl) (by kernel_rfl)).val _ rfl
      simp only [e30, e33]
      exact Yld.value (.bool true) U (by kernel_rfl) (by go_simp) ⟨Below.refl _ _, Fx.fixed rfl rfl⟩
    refine ⟨⟨_, rfl, fun ν U hU hp => ?_⟩, ?_⟩
    · simp only [putsν, Act.put, List.setIfInBounds_toArray, List.set_cons_zero, List.set_cons_succ]
      have e34 := (hp 34 (by kernel_rfl) (by kernel_rfl)).val _ rfl
      simp only [e34]
      exact Yld.value (.bool true) U (by kernel_rfl) (by go_simp) ⟨Below.refl _ _, Fx.fixed rfl rfl⟩
    refine ⟨⟨_, rfl, fun ν U hU hp => ?_⟩, ?_⟩
    · simp only [putsν, Act.put, List.setIfInBounds_toArray, List.set_cons_zero, List.set_cons_succ]
      have e35 := (hp 35 (by kernel_rfl) (by kernel_rfl)).val _ rfl
      simp only [e35]
      exact Yld.value (.string s2) U (by kernel_rfl) (by go_simp) ⟨Below.refl _ _, Fx.fixed rfl rfl⟩
    refine ⟨⟨_, rfl, fun ν U hU hp => ?_⟩, ?_⟩
    · simp only [putsν, Act.put, List.setIfInBounds_toArray, List.set_cons_zero, List.set_cons_succ]
      have e35 := (hp 35 (by kernel_rfl) (by kernel_rfl)).val _ rfl
      have e36 := (hp 36 (by kernel_rfl) (by kernel_rfl)).val _ rfl
      simp only [e35, e36]
      exact Yld.value (.string s3) U (by kernel_rfl) (by go_simp) ⟨Below.refl _ _, Fx.fixed rfl rfl⟩
    refine ⟨⟨_, rfl, fun ν U hU hp => ?_⟩, ?_⟩
    · simp only [putsν, Act.put, List.setIfInBounds_toArray, List.set_cons_zero, List.set_cons_succ]
      have e35 := (hp 35 (by kernel_rfl) (by kernel_rfl)).val _ rfl
      simp only [e35]
      exact Yld.value (.slice (some ⟨U.heap.size, 0, none⟩) 3 3) _ (by kernel_rfl) (by go_simp) ⟨(Below.refl _ _).alloc (Nat.le_refl _) _, Fx.some_ rfl rfl ⟨_, rfl, heap_alloc_new U _⟩⟩
    refine ⟨⟨_, rfl, fun ν U hU hp => ?_⟩, ?_⟩
    · simp only [putsν, Act.put, List.setIfInBounds_toArray, List.set_cons_zero, List.set_cons_succ]
      have e35 := (hp 35 (by kernel_rfl) (by kernel_rfl)).val _ rfl
      have c38 := (hp 38 (by kernel_rfl) (by kernel_rfl)).is _ rfl
      simp only [e35]
      exact Yld.value (.string s3) U (by kernel_rfl) (by obtain ⟨b, hb, hc⟩ := c38; have h0 := HT3.out U b hc; simp only [hb]; go_simp) ⟨Below.refl _ _, Fx.fixed rfl rfl⟩
    refine ⟨⟨_, rfl, fun ν U hU hp => ?_⟩, ?_⟩
    · simp only [putsν, Act.put, List.setIfInBounds_toArray, List.set_cons_zero, List.set_cons_succ]
      have e35 := (hp 35 (by kernel_rfl) (by kernel_rfl)).val _ rfl
      have e37 := (hp 37 (by kernel_rfl) (by kernel_rfl)).val _ rfl
      have e39 := (hp 39 (by kernel_rfl) (by kernel_rfl)).val _ rfl
      simp only [e35, e37, e39]
      exact Yld.value (.bool true) U (by kernel_rfl) (by go_simp) ⟨Below.refl _ _, Fx.fixed rfl rfl⟩
    refine ⟨⟨_, rfl, fun ν U hU hp => ?_⟩, ?_⟩
    · simp only [putsν, Act.put, List.setIfInBounds_toArray, List.set_cons_zero, List.set_cons_succ]
      have e35 := (hp 35 (by kernel_rfl) (by kernel_rfl)).val _ rfl
      have e40 := (hp 40 (by kernel_rfl) (by kernel_rfl)).val _ rfl
      simp only [e35, e40]
      exact Yld.value (.bool true) U (by kernel_rfl) (by go_simp) ⟨Below.refl _ _, Fx.fixed rfl rfl⟩
    refine ⟨⟨_, rfl, fun ν U hU hp => ?_⟩, ?_⟩
    · simp only [putsν, Act.put, List.setIfInBounds_toArray, List.set_cons_zero, List.set_cons_succ]
      have e41 := (hp 41 (by kernel_rfl) (by kernel_rfl)).val _ rfl
      simp only [e41]
      exact Yld.value (.bool true) U (by kernel_rfl) (by go_simp) ⟨Below.refl _ _, Fx.fixed rfl rfl⟩
    refine ⟨⟨_, rfl, fun ν U hU hp => ?_⟩, ?_⟩
    · simp only [putsν, Act.put, List.setIfInBounds_toArray, List.set_cons_zero, List.set_cons_succ]
      have e42 := (hp 42 (by kernel_rfl) (by kernel_rfl)).val _ rfl
      simp only [e42]
      exact Yld.value (.pointer (some ⟨b7, 1, none⟩)) U (by kernel_rfl) (by go_simp) ⟨Below.refl _ _, Fx.fixed rfl rfl⟩
    refine ⟨⟨_, rfl, fun ν U hU hp => ?_⟩, ?_⟩
    · simp only [putsν, Act.put, List.setIfInBounds_toArray, List.set_cons_zero, List.set_cons_succ]
      have e42 := (hp 42 (by kernel_rfl) (by kernel_rfl)).val _ rfl
      have e43 := (hp 43 (by kernel_rfl) (by kernel_rfl)).val _ rfl
      simp only [e42, e43]
      exact Yld.value (.slice (some ad6) 1 k6) U (by kernel_rfl) (by have h0 : U.cell? ⟨b7, 1, none⟩ = some (.slice (some ad6) 1 k6) := cell_of_row _ _ 1 _ _ _ (heap_keep HU7.out hU); go_simp) ⟨Below.refl _ _, Fx.fixed rfl rfl⟩
    refine ⟨⟨_, rfl, fun ν U hU hp => ?_⟩, ?_⟩
    · simp only [putsν, Act.put, List.setIfInBounds_toArray, List.set_cons_zero, List.set_cons_succ]
      have e42 := (hp 42 (by kernel_rfl) (by kernel_rfl)).val _ rfl
      have e44 := (hp 44 (by kernel_rfl) (by kernel_rfl)).val _ rfl
      simp only [e42, e44]
      exact Yld.value (.int .i64 1) U (by kernel_rfl) (by go_simp) ⟨Below.refl _ _, Fx.fixed rfl rfl⟩
    refine ⟨⟨_, rfl, fun ν U hU hp => ?_⟩, ?_⟩
    · simp only [putsν, Act.put, List.setIfInBounds_toArray, List.set_cons_zero, List.set_cons_succ]
      have e42 := (hp 42 (by kernel_rfl) (by kernel_rfl)).val _ rfl
      have e45 := (hp 45 (by kernel_rfl) (by kernel_rfl)).val _ rfl
      simp only [e42, e45]
      exact Yld.value (.bool true) U (by kernel_rfl) (by go_simp) ⟨Below.refl _ _, Fx.fixed rfl rfl⟩
    refine ⟨⟨_, rfl, fun ν U hU hp => ?_⟩, ?_⟩
    · simp only [putsν, Act.put, List.setIfInBounds_toArray, List.set_cons_zero, List.set_cons_succ]
      have e42 := (hp 42 (by kernel_rfl) (by kernel_rfl)).val _ rfl
      have e46 := (hp 46 (by kernel_rfl) (by kernel_rfl)).val _ rfl
      simp only [e42, e46]
      exact Yld.value (.bool true) U (by kernel_rfl) (by go_simp) ⟨Below.refl _ _, Fx.fixed rfl rfl⟩
    refine ⟨⟨_, rfl, fun ν U hU hp => ?_⟩, ?_⟩
    · simp only [putsν, Act.put, List.setIfInBounds_toArray, List.set_cons_zero, List.set_cons_succ]
      have e47 := (hp 47 (by kernel_rfl) (by kernel_rfl)).val _ rfl
      simp only [e47]
      exact Yld.value (.bool true) U (by kernel_rfl) (by go_simp) ⟨Below.refl _ _, Fx.fixed rfl rfl⟩
    refine ⟨⟨_, rfl, fun ν U hU hp => ?_⟩, ?_⟩
    · simp only [putsν, Act.put, List.setIfInBounds_toArray, List.set_cons_zero, List.set_cons_succ]
      have e48 := (hp 48 (by kernel_rfl) (by kernel_rfl)).val _ rfl
      simp only [e48]
      exact Yld.value (.pointer (some ⟨b7, 1, none⟩)) U (by kernel_rfl) (by go_simp) ⟨Below.refl _ _, Fx.fixed rfl rfl⟩
    refine ⟨⟨_, rfl, fun ν U hU hp => ?_⟩, ?_⟩
    · simp only [putsν, Act.put, List.setIfInBounds_toArray, List.set_cons_zero, List.set_cons_succ]
      have e48 := (hp 48 (by kernel_rfl) (by kernel_rfl)).val _ rfl
      have e49 := (hp 49 (by kernel_rfl) (by kernel_rfl)).val _ rfl
      simp only [e48, e49]
      exact Yld.value (.slice (some ad6) 1 k6) U (by kernel_rfl) (by have h0 : U.cell? ⟨b7, 1, none⟩ = some (.slice (some ad6) 1 k6) := cell_of_row _ _ 1 _ _ _ (heap_keep HU7.out hU); go_simp) ⟨Below.refl _ _, Fx.fixed rfl rfl⟩
    refine ⟨⟨_, rfl, fun ν U hU hp => ?_⟩, ?_⟩
    · simp only [putsν, Act.put, List.setIfInBounds_toArray, List.set_cons_zero, List.set_cons_succ]
      have e48 := (hp 48 (by kernel_rfl) (by kernel_rfl)).val _ rfl
      have e50 := (hp 50 (by kernel_rfl) (by kernel_rfl)).val _ rfl
      simp only [e48, e50]
      exact Yld.value (.pointer (some (ad6.add (0 * 5)))) U (by kernel_rfl) (by go_simp) ⟨Below.refl _ _, Fx.fixed rfl rfl⟩
    refine ⟨⟨_, rfl, fun ν U hU hp => ?_⟩, ?_⟩
    · simp only [putsν, Act.put, List.setIfInBounds_toArray, List.set_cons_zero, List.set_cons_succ]
      have e48 := (hp 48 (by kernel_rfl) (by kernel_rfl)).val _ rfl
      have e51 := (hp 51 (by kernel_rfl) (by kernel_rfl)).val _ rfl
      simp only [e48, e51]
      exact Yld.value (.pointer (some ⟨ad6.block, ad6.off + 2, none⟩)) U (by kernel_rfl) (by go_simp) ⟨Below.refl _ _, Fx.fixed rfl rfl⟩
    refine ⟨⟨_, rfl, fun ν U hU hp => ?_⟩, ?_⟩
    · simp only [putsν, Act.put, List.setIfInBounds_toArray, List.set_cons_zero, List.set_cons_succ]
      have e48 := (hp 48 (by kernel_rfl) (by kernel_rfl)).val _ rfl
      have e52 := (hp 52 (by kernel_rfl) (by kernel_rfl)).val _ rfl
      simp only [e48, e52]
      exact Yld.value (.int .i64 5) U (by kernel_rfl) (by have h0 : U.cell? ⟨ad6.block, ad6.off + 2, none⟩ = some (.int .i64 5) := HO6.out U hU; go_simp) ⟨Below.refl _ _, Fx.fixed rfl rfl⟩
    refine ⟨⟨_, rfl, fun ν U hU hp => ?_⟩, ?_⟩
    · simp only [putsν, Act.put, List.setIfInBounds_toArray, List.set_cons_zero, List.set_cons_succ]
      have e48 := (hp 48 (by kernel_rfl) (by kernel_rfl)).val _ rfl
      have e53 := (hp 53 (by kernel_rfl) (by kernel_rfl)).val _ rfl
      simp only [e48, e53]
      exact Yld.value (.bool true) U (by kernel_rfl) (by go_simp) ⟨Below.refl _ _, Fx.fixed rfl rfl⟩
    refine ⟨⟨_, rfl, fun ν U hU hp => ?_⟩, ?_⟩
    · simp only [putsν, Act.put, List.setIfInBounds_toArray, List.set_cons_zero, List.set_cons_succ]
      have e48 := (hp 48 (by kernel_rfl) (by kernel_rfl)).val _ rfl
      have e54 := (hp 54 (by kernel_rfl) (by kernel_rfl)).val _ rfl
      simp only [e48, e54]
      exact Yld.value (.bool true) U (by kernel_rfl) (by go_simp) ⟨Below.refl _ _, Fx.fixed rfl rfl⟩
    refine ⟨⟨_, rfl, fun ν U hU hp => ?_⟩, ?_⟩
    · simp only [putsν, Act.put, List.setIfInBounds_toArray, List.set_cons_zero, List.set_cons_succ]
      have e55 := (hp 55 (by kernel_rfl) (by kernel_rfl)).val _ rfl
      simp only [e55]
      exact Yld.value (.bool true) U (by kernel_rfl) (by go_simp) ⟨Below.refl _ _, Fx.fixed rfl rfl⟩
    refine ⟨⟨_, rfl, fun ν U hU hp => ?_⟩, ?_⟩
    · simp only [putsν, Act.put, List.setIfInBounds_toArray, List.set_cons_zero, List.set_cons_succ]
      have e56 := (hp 56 (by kernel_rfl) (by kernel_rfl)).val _ rfl
      simp only [e56]
      exact Yld.value (.pointer (some ⟨b7, 3, none⟩)) U (by kernel_rfl) (by go_simp) ⟨Below.refl _ _, Fx.fixed rfl rfl⟩
    refine ⟨⟨_, rfl, fun ν U hU hp => ?_⟩, ?_⟩
    · simp only [putsν, Act.put, List.setIfInBounds_toArray, List.set_cons_zero, List.set_cons_succ]
      have e56 := (hp 56 (by kernel_rfl) (by kernel_rfl)).val _ rfl
      have e57 := (hp 57 (by kernel_rfl) (by kernel_rfl)).val _ rfl
      simp only [e56, e57]
      exact Yld.value (.bool false) U (by kernel_rfl) (by have h0 : U.cell? ⟨b7, 3, none⟩ = some (.bool false) := cell_of_row _ _ 3 _ _ _ (heap_keep HU7.out hU); go_simp) ⟨Below.refl _ _, Fx.fixed rfl rfl⟩
    refine ⟨⟨_, rfl, fun ν U hU hp => ?_⟩, ?_⟩
    · simp only [putsν, Act.put, List.setIfInBounds_toArray, List.set_cons_zero, List.set_cons_succ]
      have e56 := (hp 56 (by kernel_rfl) (by kernel_rfl)).val _ rfl
      have e58 := (hp 58 (by kernel_rfl) (by kernel_rfl)).val _ rfl
      simp only [e56, e58]
      exact Yld.value (.bool true) U (by kernel_rfl) (by go_simp) ⟨Below.refl _ _, Fx.fixed rfl rfl⟩
    refine ⟨⟨_, rfl, fun ν U hU hp => ?_⟩, ?_⟩
    · simp only [putsν, Act.put, List.setIfInBounds_toArray, List.set_cons_zero, List.set_cons_succ]
      have e56 := (hp 56 (by kernel_rfl) (by kernel_rfl)).val _ rfl
      have e59 := (hp 59 (by kernel_rfl) (by kernel_rfl)).val _ rfl
      simp only [e56, e59]
      exact Yld.value (.bool true) U (by kernel_rfl) (by go_simp) ⟨Below.refl _ _, Fx.fixed rfl rfl⟩
    refine ⟨⟨_, rfl, fun ν U hU hp => ?_⟩, ?_⟩
    · simp only [putsν, Act.put, List.setIfInBounds_toArray, List.set_cons_zero, List.set_cons_succ]
      have e60 := (hp 60 (by kernel_rfl) (by kernel_rfl)).val _ rfl
      simp only [e60]
      exact Yld.value (.bool true) U (by kernel_rfl) (by go_simp) ⟨Below.refl _ _, Fx.fixed rfl rfl⟩
    refine ⟨⟨_, rfl, fun ν U hU hp => ?_⟩, ?_⟩
    · simp only [putsν, Act.put, List.setIfInBounds_toArray, List.set_cons_zero, List.set_cons_succ]
      have e61 := (hp 61 (by kernel_rfl) (by kernel_rfl)).val _ rfl
      simp only [e61]
      exact Yld.value (.pointer (some ⟨b7, 2, none⟩)) U (by kernel_rfl) (by go_simp) ⟨Below.refl _ _, Fx.fixed rfl rfl⟩
    refine ⟨⟨_, rfl, fun ν U hU hp => ?_⟩, ?_⟩
    · simp only [putsν, Act.put, List.setIfInBounds_toArray, List.set_cons_zero, List.set_cons_succ]
      have e61 := (hp 61 (by kernel_rfl) (by kernel_rfl)).val _ rfl
      have e62 := (hp 62 (by kernel_rfl) (by kernel_rfl)).val _ rfl
      simp only [e61, e62]
      exact Yld.value (.int .i64 17) U (by kernel_rfl) (by have h0 : U.cell? ⟨b7, 2, none⟩ = some (.int .i64 17) := cell_of_row _ _ 2 _ _ _ (heap_keep HU7.out hU); go_simp) ⟨Below.refl _ _, Fx.fixed rfl rfl⟩
    refine ⟨⟨_, rfl, fun ν U hU hp => ?_⟩, ?_⟩
    · simp only [putsν, Act.put, List.setIfInBounds_toArray, List.set_cons_zero, List.set_cons_succ]
      have e61 := (hp 61 (by kernel_rfl) (by kernel_rfl)).val _ rfl
      simp only [e61]
      exact Yld.value (.string h2) U (by kernel_rfl) (by go_simp) ⟨Below.refl _ _, Fx.fixed rfl rfl⟩
    refine ⟨⟨_, rfl, fun ν U hU hp => ?_⟩, ?_⟩
    · simp only [putsν, Act.put, List.setIfInBounds_toArray, List.set_cons_zero, List.set_cons_succ]
      have e61 := (hp 61 (by kernel_rfl) (by kernel_rfl)).val _ rfl
      have e64 := (hp 64 (by kernel_rfl) (by kernel_rfl)).val _ rfl
      simp only [e61, e64]
      exact Yld.value (.int .i64 10) U (by kernel_rfl) (by go_simp) ⟨Below.refl _ _, Fx.fixed rfl rfl⟩
    refine ⟨⟨_, rfl, fun ν U hU hp => ?_⟩, ?_⟩
    · simp only [putsν, Act.put, List.setIfInBounds_toArray, List.set_cons_zero, List.set_cons_succ]
      have e61 := (hp 61 (by kernel_rfl) (by kernel_rfl)).val _ rfl
      have e65 := (hp 65 (by kernel_rfl) (by kernel_rfl)).val _ rfl
      simp only [e61, e65]
      exact Yld.value (.int .i64 17) U (by kernel_rfl) (by go_simp) ⟨Below.refl _ _, Fx.fixed rfl rfl⟩
    refine ⟨⟨_, rfl, fun ν U hU hp => ?_⟩, ?_⟩
    · simp only [putsν, Act.put, List.setIfInBounds_toArray, List.set_cons_zero, List.set_cons_succ]
      have e61 := (hp 61 (by kernel_rfl) (by kernel_rfl)).val _ rfl
      have e63 := (hp 63 (by kernel_rfl) (by kernel_rfl)).val _ rfl
      have e66 := (hp 66 (by kernel_rfl) (by kernel_rfl)).val _ rfl
      simp only [e61, e63, e66]
      exact Yld.value (.bool true) U (by kernel_rfl) (by go_simp) ⟨Below.refl _ _, Fx.fixed rfl rfl⟩
    refine ⟨⟨_, rfl, fun ν U hU hp => ?_⟩, ?_⟩
    · simp only [putsν, Act.put, List.setIfInBounds_toArray, List.set_cons_zero, List.set_cons_succ]
      have e61 := (hp 61 (by kernel_rfl) (by kernel_rfl)).val _ rfl
      have e67 := (hp 67 (by kernel_rfl) (by kernel_rfl)).val _ rfl
      simp only [e61, e67]
      exact Yld.value (.bool true) U (by kernel_rfl) (by go_simp) ⟨Below.refl _ _, Fx.fixed rfl rfl⟩
    refine ⟨⟨_, rfl, fun ν U hU hp => ?_⟩, ?_⟩
    · simp only [putsν, Act.put, List.setIfInBounds_toArray, List.set_cons_zero, List.set_cons_succ]
      have e68 := (hp 68 (by kernel_rfl) (by kernel_rfl)).val _ rfl
      simp only [e68]
      exact Yld.value (.bool true) U (by kernel_rfl) (by go_simp) ⟨Below.refl _ _, Fx.fixed rfl rfl⟩
    refine ⟨⟨_, rfl, fun ν U hU hp => ?_⟩, ?_⟩
    · simp only [putsν, Act.put, List.setIfInBounds_toArray, List.set_cons_zero, List.set_cons_succ]
      have e69 := (hp 69 (by kernel_rfl) (by kernel_rfl)).val _ rfl
      simp only [e69]
      exact Yld.value (.pointer (some ⟨b9, 1, none⟩)) U (by kernel_rfl) (by go_simp) ⟨Below.refl _ _, Fx.fixed rfl rfl⟩
    refine ⟨⟨_, rfl, fun ν U hU hp => ?_⟩, ?_⟩
    · simp only [putsν, Act.put, List.setIfInBounds_toArray, List.set_cons_zero, List.set_cons_succ]
      have e69 := (hp 69 (by kernel_rfl) (by kernel_rfl)).val _ rfl
      have e70 := (hp 70 (by kernel_rfl) (by kernel_rfl)).val _ rfl
      simp only [e69, e70]
      exact Yld.value (.slice A8 0 k8) U (by kernel_rfl) (by have h0 : U.cell? ⟨b9, 1, none⟩ = some (.slice A8 0 k8) := cell_of_row _ _ 1 _ _ _ (heap_keep HU9.out hU); go_simp) ⟨Below.refl _ _, Fx.fixed rfl rfl⟩
    refine ⟨⟨_, rfl, fun ν U hU hp => ?_⟩, ?_⟩
    · simp only [putsν, Act.put, List.setIfInBounds_toArray, List.set_cons_zero, List.set_cons_succ]
      have e69 := (hp 69 (by kernel_rfl) (by kernel_rfl)).val _ rfl
      have e71 := (hp 71 (by kernel_rfl) (by kernel_rfl)).val _ rfl
      simp only [e69, e71]
      exact Yld.value (.int .i64 0) U (by kernel_rfl) (by go_simp) ⟨Below.refl _ _, Fx.fixed rfl rfl⟩
    refine ⟨⟨_, rfl, fun ν U hU hp => ?_⟩, ?_⟩
    · simp only [putsν, Act.put, List.setIfInBounds_toArray, List.set_cons_zero, List.set_cons_succ]
      have e69 := (hp 69 (by kernel_rfl) (by kernel_rfl)).val _ rfl
      have e72 := (hp 72 (by kernel_rfl) (by kernel_rfl)).val _ rfl
      simp only [e69, e72]
      exact Yld.value (.bool true) U (by kernel_rfl) (by go_simp) ⟨Below.refl _ _, Fx.fixed rfl rfl⟩
    refine ⟨⟨_, rfl, fun ν U hU hp => ?_⟩, ?_⟩
    · simp only [putsν, Act.put, List.setIfInBounds_toArray, List.set_cons_zero, List.set_cons_succ]
      have e69 := (hp 69 (by kernel_rfl) (by kernel_rfl)).val _ rfl
      have e73 := (hp 73 (by kernel_rfl) (by kernel_rfl)).val _ rfl
      simp only [e69, e73]
      exact Yld.value (.bool true) U (by kernel_rfl) (by go_simp) ⟨Below.refl _ _, Fx.fixed rfl rfl⟩
    refine ⟨⟨_, rfl, fun ν U hU hp => ?_⟩, ?_⟩
    · simp only [putsν, Act.put, List.setIfInBounds_toArray, List.set_cons_zero, List.set_cons_succ]
      have e74 := (hp 74 (by kernel_rfl) (by kernel_rfl)).val _ rfl
      simp only [e74]
      exact Yld.value (.bool true) U (by kernel_rfl) (by go_simp) ⟨Below.refl _ _, Fx.fixed rfl rfl⟩
    refine ⟨⟨_, rfl, fun ν U hU hp => ?_⟩, ?_⟩
    · simp only [putsν, Act.put, List.setIfInBounds_toArray, List.set_cons_zero, List.set_cons_succ]
      have e75 := (hp 75 (by kernel_rfl) (by kernel_rfl)).val _ rfl
      simp only [e75]
      exact Yld.value (.pointer (some ⟨b9, 3, none⟩)) U (by kernel_rfl) (by go_simp) ⟨Below.refl _ _, Fx.fixed rfl rfl⟩
    refine ⟨⟨_, rfl, fun ν U hU hp => ?_⟩, ?_⟩
    · simp only [putsν, Act.put, List.setIfInBounds_toArray, List.set_cons_zero, List.set_cons_succ]
      have e75 := (hp 75 (by kernel_rfl) (by kernel_rfl)).val _ rfl
      have e76 := (hp 76 (by kernel_rfl) (by kernel_rfl)).val _ rfl
      simp only [e75, e76]
      exact Yld.value (.bool true) U (by kernel_rfl) (by have h0 : U.cell? ⟨b9, 3, none⟩ = some (.bool true) := cell_of_row _ _ 3 _ _ _ (heap_keep HU9.out hU); go_simp) ⟨Below.refl _ _, Fx.fixed rfl rfl⟩
    refine ⟨⟨_, rfl, fun ν U hU hp => ?_⟩, ?_⟩
    · simp only [putsν, Act.put, List.setIfInBounds_toArray, List.set_cons_zero, List.set_cons_succ]
      have e75 := (hp 75 (by kernel_rfl) (by kernel_rfl)).val _ rfl
      have e77 := (hp 77 (by kernel_rfl) (by kernel_rfl)).val _ rfl
      simp only [e75, e77]
      exact Yld.value (.bool true) U (by kernel_rfl) (by go_simp) ⟨Below.refl _ _, Fx.fixed rfl rfl⟩
    refine ⟨⟨_, rfl, fun ν U hU hp => ?_⟩, ?_⟩
    · simp only [putsν, Act.put, List.setIfInBounds_toArray, List.set_cons_zero, List.set_cons_succ]
      have e78 := (hp 78 (by kernel_rfl) (by kernel_rfl)).val _ rfl
      simp only [e78]
      exact Yld.value (.bool true) U (by kernel_rfl) (by go_simp) ⟨Below.refl _ _, Fx.fixed rfl rfl⟩
    refine ⟨⟨_, rfl, fun ν U hU hp => ?_⟩, ?_⟩
    · simp only [putsν, Act.put, List.setIfInBounds_toArray, List.set_cons_zero, List.set_cons_succ]
      have e79 := (hp 79 (by kernel_rfl) (by kernel_rfl)).val _ rfl
      simp only [e79]
      exact Yld.value (.pointer (some ⟨b9, 2, none⟩)) U (by kernel_rfl) (by go_simp) ⟨Below.refl _ _, Fx.fixed rfl rfl⟩
    refine ⟨⟨_, rfl, fun ν U hU hp => ?_⟩, ?_⟩
    · simp only [putsν, Act.put, List.setIfInBounds_toArray, List.set_cons_zero, List.set_cons_succ]
      have e79 := (hp 79 (by kernel_rfl) (by kernel_rfl)).val _ rfl
      have e80 := (hp 80 (by kernel_rfl) (by kernel_rfl)).val _ rfl
      simp only [e79, e80]
      exact Yld.value (.int .i64 10) U (by kernel_rfl) (by have h0 : U.cell? ⟨b9, 2, none⟩ = some (.int .i64 10) := cell_of_row _ _ 2 _ _ _ (heap_keep HU9.out hU); go_simp) ⟨Below.refl _ _, Fx.fixed rfl rfl⟩
    refine ⟨⟨_, rfl, fun ν U hU hp => ?_⟩, ?_⟩
    · simp only [putsν, Act.put, List.setIfInBounds_toArray, List.set_cons_zero, List.set_cons_succ]
      have e79 := (hp 79 (by kernel_rfl) (by kernel_rfl)).val _ rfl
      simp only [e79]
      exact Yld.value (.string h2) U (by kernel_rfl) (by go_simp) ⟨Below.refl _ _, Fx.fixed rfl rfl⟩
    refine ⟨⟨_, rfl, fun ν U hU hp => ?_⟩, ?_⟩
    · simp only [putsν, Act.put, List.setIfInBounds_toArray, List.set_cons_zero, List.set_cons_succ]
      have e79 := (hp 79 (by kernel_rfl) (by kernel_rfl)).val _ rfl
      have e82 := (hp 82 (by kernel_rfl) (by kernel_rfl)).val _ rfl
      simp only [e79, e82]
      exact Yld.value (.int .i64 10) U (by kernel_rfl) (by go_simp) ⟨Below.refl _ _, Fx.fixed rfl rfl⟩
    refine ⟨⟨_, rfl, fun ν U hU hp => ?_⟩, ?_⟩
    · simp only [putsν, Act.put, List.setIfInBounds_toArray, List.set_cons_zero, List.set_cons_succ]
      have e79 := (hp 79 (by kernel_rfl) (by kernel_rfl)).val _ rfl
      have e81 := (hp 81 (by kernel_rfl) (by kernel_rfl)).val _ rfl
      have e83 := (hp 83 (by kernel_rfl) (by kernel_rfl)).val _ rfl
      simp only [e79, e81, e83]
      exact Yld.value (.bool true) U (by kernel_rfl) (by go_simp) ⟨Below.refl _ _, Fx.fixed rfl rfl⟩
    refine ⟨⟨_, rfl, fun ν U hU hp => ?_⟩, ?_⟩
    · simp only [putsν, Act.put, List.setIfInBounds_toArray, List.set_cons_zero, List.set_cons_succ]
      have e79 := (hp 79 (by kernel_rfl) (by kernel_rfl)).val _ rfl
      have e84 := (hp 84 (by kernel_rfl) (by kernel_rfl)).val _ rfl
      simp only [e79, e84]
      exact Yld.value (.bool true) U (by kernel_rfl) (by go_simp) ⟨Below.refl _ _, Fx.fixed rfl rfl⟩
    refine ⟨⟨_, rfl, fun ν U hU hp => ?_⟩, ?_⟩
    · simp only [putsν, Act.put, List.setIfInBounds_toArray, List.set_cons_zero, List.set_cons_succ]
      have e85 := (hp 85 (by kernel_rfl) (by kernel_rfl)).val _ rfl
      simp only [e85]
      exact Yld.value (.bool true) U (by kernel_rfl) (by go_simp) ⟨Below.refl _ _, Fx.fixed rfl rfl⟩
    refine ⟨⟨_, rfl, fun ν U hU hp => ?_⟩, ?_⟩
    · simp only [putsν, Act.put, List.setIfInBounds_toArray, List.set_cons_zero, List.set_cons_succ]
      have e86 := (hp 86 (by kernel_rfl) (by kernel_rfl)).val _ rfl
      simp only [e86]
      exact Yld.value (.string s1) U (by kernel_rfl) (by go_simp) ⟨Below.refl _ _, Fx.fixed rfl rfl⟩
    refine ⟨⟨_, rfl, fun ν U hU hp => ?_⟩, ?_⟩
    · simp only [putsν, Act.put, List.setIfInBounds_toArray, List.set_cons_zero, List.set_cons_succ]
      have e86 := (hp 86 (by kernel_rfl) (by kernel_rfl)).val _ rfl
      have e87 := (hp 87 (by kernel_rfl) (by kernel_rfl)).val _ rfl
      simp only [e86, e87]
      exact Yld.value (.int .i64 186) U (by kernel_rfl) (by go_simp) ⟨Below.refl _ _, Fx.fixed rfl rfl⟩
    refine ⟨⟨_, rfl, fun ν U hU hp => ?_⟩, ?_⟩
    · simp only [putsν, Act.put, List.setIfInBounds_toArray, List.set_cons_zero, List.set_cons_succ]
      have e86 := (hp 86 (by kernel_rfl) (by kernel_rfl)).val _ rfl
      have e88 := (hp 88 (by kernel_rfl) (by kernel_rfl)).val _ rfl
      simp only [e86, e88]
      exact Yld.value (.bool true) U (by kernel_rfl) (by go_simp) ⟨Below.refl _ _, Fx.fixed rfl rfl⟩
    refine ⟨⟨_, rfl, fun ν U hU hp => ?_⟩, ?_⟩
    · simp only [putsν, Act.put, List.setIfInBounds_toArray, List.set_cons_zero, List.set_cons_succ]
      have e86 := (hp 86 (by kernel_rfl) (by kernel_rfl)).val _ rfl
      have e89 := (hp 89 (by kernel_rfl) (by kernel_rfl)).val _ rfl
      simp only [e86, e89]
      exact Yld.value (.bool true) U (by kernel_rfl) (by go_simp) ⟨Below.refl _ _, Fx.fixed rfl rfl⟩
    refine ⟨⟨_, rfl, fun ν U hU hp => ?_⟩, ?_⟩
    · simp only [putsν, Act.put, List.setIfInBounds_toArray, List.set_cons_zero, List.set_cons_succ]
      have e90 := (hp 90 (by kernel_rfl) (by kernel_rfl)).val _ rfl
      simp only [e90]
      exact Yld.value (.bool true) U (by kernel_rfl) (by go_simp) ⟨Below.refl _ _, Fx.fixed rfl rfl⟩
    refine ⟨⟨_, rfl, fun ν U hU hp => ?_⟩, ?_⟩
    · simp only [putsν, Act.put, List.setIfInBounds_toArray, List.set_cons_zero, List.set_cons_succ]
      have e91 := (hp 91 (by kernel_rfl) (by kernel_rfl)).val _ rfl
      simp only [e91]
      exact Yld.value (.pointer (some ⟨b17, 1, none⟩)) U (by kernel_rfl) (by go_simp) ⟨Below.refl _ _, Fx.fixed rfl rfl⟩
    refine ⟨⟨_, rfl, fun ν U hU hp => ?_⟩, ?_⟩
    · simp only [putsν, Act.put, List.setIfInBounds_toArray, List.set_cons_zero, List.set_cons_succ]
      have e91 := (hp 91 (by kernel_rfl) (by kernel_rfl)).val _ rfl
      have e92 := (hp 92 (by kernel_rfl) (by kernel_rfl)).val _ rfl
      simp only [e91, e92]
      exact Yld.value (.slice (some ad16) 1 k16) U (by kernel_rfl) (by have h0 : U.cell? ⟨b17, 1, none⟩ = some (.slice (some ad16) 1 k16) := cell_of_row _ _ 1 _ _ _ (heap_keep HU17.out hU); go_simp) ⟨Below.refl _ _, Fx.fixed rfl rfl⟩
    refine ⟨⟨_, rfl, fun ν U hU hp => ?_⟩, ?_⟩
    · simp only [putsν, Act.put, List.setIfInBounds_toArray, List.set_cons_zero, List.set_cons_succ]
      have e91 := (hp 91 (by kernel_rfl) (by kernel_rfl)).val _ rfl
      have e93 := (hp 93 (by kernel_rfl) (by kernel_rfl)).val _ rfl
      simp only [e91, e93]
      exact Yld.value (.int .i64 1) U (by kernel_rfl) (by go_simp) ⟨Below.refl _ _, Fx.fixed rfl rfl⟩
    refine ⟨⟨_, rfl, fun ν U hU hp => ?_⟩, ?_⟩
    · simp only [putsν, Act.put, List.setIfInBounds_toArray, List.set_cons_zero, List.set_cons_succ]
      have e91 := (hp 91 (by kernel_rfl) (by kernel_rfl)).val _ rfl
      have e94 := (hp 94 (by kernel_rfl) (by kernel_rfl)).val _ rfl
      simp only [e91, e94]
      exact Yld.value (.bool true) U (by kernel_rfl) (by go_simp) ⟨Below.refl _ _, Fx.fixed rfl rfl⟩
    refine ⟨⟨_, rfl, fun ν U hU hp => ?_⟩, ?_⟩
    · simp only [putsν, Act.put, List.setIfInBounds_toArray, List.set_cons_zero, List.set_cons_succ]
      have e91 := (hp 91 (by kernel_rfl) (by kernel_rfl)).val _ rfl
      have e95 := (hp 95 (by kernel_rfl) (by kernel_rfl)).val _ rfl
      simp only [e91, e95]
      exact Yld.value (.bool true) U (by kernel_rfl) (by go_simp) ⟨Below.refl _ _, Fx.fixed rfl rfl⟩
    refine ⟨⟨_, rfl, fun ν U hU hp => ?_⟩, ?_⟩
    · simp only [putsν, Act.put, List.setIfInBounds_toArray, List.set_cons_zero, List.set_cons_succ]
      have e96 := (hp 96 (by kernel_rfl) (by kernel_rfl)).val _ rfl
      simp only [e96]
      exact Yld.value (.bool true) U (by kernel_rfl) (by go_simp) ⟨Below.refl _ _, Fx.fixed rfl rfl⟩
    refine ⟨⟨_, rfl, fun ν U hU hp => ?_⟩, ?_⟩
    · simp only [putsν, Act.put, List.setIfInBounds_toArray, List.set_cons_zero, List.set_cons_succ]
      have e97 := (hp 97 (by kernel_rfl) (by kernel_rfl)).val _ rfl
      simp only [e97]
      exact Yld.value (.pointer (some ⟨b17, 1, none⟩)) U (by kernel_rfl) (by go_simp) ⟨Below.refl _ _, Fx.fixed rfl rfl⟩
    refine ⟨⟨_, rfl, fun ν U hU hp => ?_⟩, ?_⟩
    · simp only [putsν, Act.put, List.setIfInBounds_toArray, List.set_cons_zero, List.set_cons_succ]
      have e97 := (hp 97 (by kernel_rfl) (by kernel_rfl)).val _ rfl
      have e98 := (hp 98 (by kernel_rfl) (by kernel_rfl)).val _ rfl
      simp only [e97, e98]
      exact Yld.value (.slice (some ad16) 1 k16) U (by kernel_rfl) (by have h0 : U.cell? ⟨b17, 1, none⟩ = some (.slice (some ad16) 1 k16) := cell_of_row _ _ 1 _ _ _ (heap_keep HU17.out hU); go_simp) ⟨Below.refl _ _, Fx.fixed rfl rfl⟩
    refine ⟨⟨_, rfl, fun ν U hU hp => ?_⟩, ?_⟩
    · simp only [putsν, Act.put, List.setIfInBounds_toArray, List.set_cons_zero, List.set_cons_succ]
      have e97 := (hp 97 (by kernel_rfl) (by kernel_rfl)).val _ rfl
      have e99 := (hp 99 (by kernel_rfl) (by kernel_rfl)).val _ rfl
      simp only [e97, e99]
      exact Yld.value (.pointer (some (ad16.add (0 * 5)))) U (by kernel_rfl) (by go_simp) ⟨Below.refl _ _, Fx.fixed rfl rfl⟩
    refine ⟨⟨_, rfl, fun ν U hU hp => ?_⟩, ?_⟩
    · simp only [putsν, Act.put, List.setIfInBounds_toArray, List.set_cons_zero, List.set_cons_succ]
      have e97 := (hp 97 (by kernel_rfl) (by kernel_rfl)).val _ rfl
      have e100 := (hp 100 (by kernel_rfl) (by kernel_rfl)).val _ rfl
      simp only [e97, e100]
      exact Yld.value (.pointer (some ⟨ad16.block, ad16.off + 4, none⟩)) U (by kernel_rfl) (by go_simp) ⟨Below.refl _ _, Fx.fixed rfl rfl⟩
    refine ⟨⟨_, rfl, fun ν U hU hp => ?_⟩, ?_⟩
    · simp only [putsν, Act.put, List.setIfInBounds_toArray, List.set_cons_zero, List.set_cons_succ]
      have e97 := (hp 97 (by kernel_rfl) (by kernel_rfl)).val _ rfl
      have e101 := (hp 101 (by kernel_rfl) (by kernel_rfl)).val _ rfl
      simp only [e97, e101]
      exact Yld.value (.int .u64 2) U (by kernel_rfl) (by have h0 : U.cell? ⟨ad16.block, ad16.off + 4, none⟩ = some (.int .u64 2) := HO16.out U hU; go_simp) ⟨Below.refl _ _, Fx.fixed rfl rfl⟩
    refine ⟨⟨_, rfl, fun ν U hU hp => ?_⟩, ?_⟩
    · simp only [putsν, Act.put, List.setIfInBounds_toArray, List.set_cons_zero, List.set_cons_succ]
      have e97 := (hp 97 (by kernel_rfl) (by kernel_rfl)).val _ rfl
      have e102 := (hp 102 (by kernel_rfl) (by kernel_rfl)).val _ rfl
      simp only [e97, e102]
      exact Yld.value (.bool true) U (by kernel_rfl) (by go_simp) ⟨Below.refl _ _, Fx.fixed rfl rfl⟩
    refine ⟨⟨_, rfl, fun ν U hU hp => ?_⟩, ?_⟩
    · simp only [putsν, Act.put, List.setIfInBounds_toArray, List.set_cons_zero, List.set_cons_succ]
      have e97 := (hp 97 (by kernel_rfl) (by kernel_rfl)).val _ rfl
      have e103 := (hp 103 (by kernel_rfl) (by kernel_rfl)).val _ rfl
      simp only [e97, e103]
      exact Yld.value (.bool true) U (by kernel_rfl) (by go_simp) ⟨Below.refl _ _, Fx.fixed rfl rfl⟩
    refine ⟨⟨_, rfl, fun ν U hU hp => ?_⟩, ?_⟩
    · simp only [putsν, Act.put, List.setIfInBounds_toArray, List.set_cons_zero, List.set_cons_succ]
      have e104 := (hp 104 (by kernel_rfl) (by kernel_rfl)).val _ rfl
      simp only [e104]
      exact Yld.value (.bool true) U (by kernel_rfl) (by go_simp) ⟨Below.refl _ _, Fx.fixed rfl rfl⟩
    trivial
  intro ν w18 hS18 hf
  have e0 := (hf 0 (by kernel_rfl)).val _ rfl
  have e1 := (hf 1 (by kernel_rfl)).val _ rfl
  have e2 := (hf 2 (by kernel_rfl)).val _ rfl
  have e3 := (hf 3 (by kernel_rfl)).val _ rfl
  have e4 := (hf 4 (by kernel_rfl)).val _ rfl
  have e5 := (hf 5 (by kernel_rfl)).val _ rfl
  have e6 := (hf 6 (by kernel_rfl)).val _ rfl
  have e7 := (hf 7 (by kernel_rfl)).val _ rfl
  have e8 := (hf 8 (by kernel_rfl)).val _ rfl
  have e9 := (hf 9 (by kernel_rfl)).val _ rfl
  have e10 := (hf 10 (by kernel_rfl)).val _ rfl
  have e11 := (hf 11 (by kernel_rfl)).val _ rfl
  have e12 := (hf 12 (by kernel_rfl)).val _ rfl
  have e13 := (hf 13 (by kernel_rfl)).val _ rfl
  have e14 := (hf 14 (by kernel_rfl)).val _ rfl
  have e15 := (hf 15 (by kernel_rfl)).val _ rfl
  have e16 := (hf 16 (by kernel_rfl)).val _ rfl
  have e17 := (hf 17 (by kernel_rfl)).val _ rfl
  have e18 := (hf 18 (by kernel_rfl)).val _ rfl
  have e19 := (hf 19 (by kernel_rfl)).val _ rfl
  have e20 := (hf 20 (by kernel_rfl)).val _ rfl
  have e21 := (hf 21 (by kernel_rfl)).val _ rfl
  have e22 := (hf 22 (by kernel_rfl)).val _ rfl
  have e23 := (hf 23 (by kernel_rfl)).val _ rfl
  have e24 := (hf 24 (by kernel_rfl)).val _ rfl
  have e25 := (hf 25 (by kernel_rfl)).val _ rfl
  have e26 := (hf 26 (by kernel_rfl)).val _ rfl
  have e27 := (hf 27 (by kernel_rfl)).val _ rfl
  have e28 := (hf 28 (by kernel_rfl)).val _ rfl
  have e29 := (hf 29 (by kernel_rfl)).val _ rfl
  have e30 := (hf 30 (by kernel_rfl)).val _ rfl
  have e31 := (hf 31 (by kernel_rfl)).val _ rfl
  have e32 := (hf 32 (by kernel_rfl)).val _ rfl
  have e33 := (hf 33 (by kernel_rfl)).val _ rfl
  have e34 := (hf 34 (by kernel_rfl)).val _ rfl
  have e35 := (hf 35 (by kernel_rfl)).val _ rfl
  have e36 := (hf 36 (by kernel_rfl)).val _ rfl
  have e37 := (hf 37 (by kernel_rfl)).val _ rfl
  have c38 := (hf 38 (by kernel_rfl)).is _ rfl
  have e39 := (hf 39 (by kernel_rfl)).val _ rfl
  have e40 := (hf 40 (by kernel_rfl)).val _ rfl
  have e41 := (hf 41 (by kernel_rfl)).val _ rfl
  have e42 := (hf 42 (by kernel_rfl)).val _ rfl
  have e43 := (hf 43 (by kernel_rfl)).val _ rfl
  have e44 := (hf 44 (by kernel_rfl)).val _ rfl
  have e45 := (hf 45 (by kernel_rfl)).val _ rfl
  have e46 := (hf 46 (by kernel_rfl)).val _ rfl
  have e47 := (hf 47 (by kernel_rfl)).val _ rfl
  have e48 := (hf 48 (by kernel_rfl)).val _ rfl
  have e49 := (hf 49 (by kernel_rfl)).val _ rfl
  have e50 := (hf 50 (by kernel_rfl)).val _ rfl
  have e51 := (hf 51 (by kernel_rfl)).val _ rfl
  have e52 := (hf 52 (by kernel_rfl)).val _ rfl
  have e53 := (hf 53 (by kernel_rfl)).val _ rfl
  have e54 := (hf 54 (by kernel_rfl)).val _ rfl
  have e55 := (hf 55 (by kernel_rfl)).val _ rfl
  have e56 := (hf 56 (by kernel_rfl)).val _ rfl
  have e57 := (hf 57 (by kernel_rfl)).val _ rfl
  have e58 := (hf 58 (by kernel_rfl)).val _ rfl
  have e59 := (hf 59 (by kernel_rfl)).val _ rfl
  have e60 := (hf 60 (by kernel_rfl)).val _ rfl
  have e61 := (hf 61 (by kernel_rfl)).val _ rfl
  have e62 := (hf 62 (by kernel_rfl)).val _ rfl
  have e63 := (hf 63 (by kernel_rfl)).val _ rfl
  have e64 := (hf 64 (by kernel_rfl)).val _ rfl
  have e65 := (hf 65 (by kernel_rfl)).val _ rfl
  have e66 := (hf 66 (by kernel_rfl)).val _ rfl
  have e67 := (hf 67 (by kernel_rfl)).val _ rfl
  have e68 := (hf 68 (by kernel_rfl)).val _ rfl
  have e69 := (hf 69 (by kernel_rfl)).val _ rfl
  have e70 := (hf 70 (by kernel_rfl)).val _ rfl
  have e71 := (hf 71 (by kernel_rfl)).val _ rfl
  have e72 := (hf 72 (by kernel_rfl)).val _ rfl
  have e73 := (hf 73 (by kernel_rfl)).val _ rfl
  have e74 := (hf 74 (by kernel_rfl)).val _ rfl
  have e75 := (hf 75 (by kernel_rfl)).val _ rfl
  have e76 := (hf 76 (by kernel_rfl)).val _ rfl
  have e77 := (hf 77 (by kernel_rfl)).val _ rfl
  have e78 := (hf 78 (by kernel_rfl)).val _ rfl
  have e79 := (hf 79 (by kernel_rfl)).val _ rfl
  have e80 := (hf 80 (by kernel_rfl)).val _ rfl
  have e81 := (hf 81 (by kernel_rfl)).val _ rfl
  have e82 := (hf 82 (by kernel_rfl)).val _ rfl
  have e83 := (hf 83 (by kernel_rfl)).val _ rfl
  have e84 := (hf 84 (by kernel_rfl)).val _ rfl
  have e85 := (hf 85 (by kernel_rfl)).val _ rfl
  have e86 := (hf 86 (by kernel_rfl)).val _ rfl
  have e87 := (hf 87 (by kernel_rfl)).val _ rfl
  have e88 := (hf 88 (by kernel_rfl)).val _ rfl
  have e89 := (hf 89 (by kernel_rfl)).val _ rfl
  have e90 := (hf 90 (by kernel_rfl)).val _ rfl
  have e91 := (hf 91 (by kernel_rfl)).val _ rfl
  have e92 := (hf 92 (by kernel_rfl)).val _ rfl
  have e93 := (hf 93 (by kernel_rfl)).val _ rfl
  have e94 := (hf 94 (by kernel_rfl)).val _ rfl
  have e95 := (hf 95 (by kernel_rfl)).val _ rfl
  have e96 := (hf 96 (by kernel_rfl)).val _ rfl
  have e97 := (hf 97 (by kernel_rfl)).val _ rfl
  have e98 := (hf 98 (by kernel_rfl)).val _ rfl
  have e99 := (hf 99 (by kernel_rfl)).val _ rfl
  have e100 := (hf 100 (by kernel_rfl)).val _ rfl
  have e101 := (hf 101 (by kernel_rfl)).val _ rfl
  have e102 := (hf 102 (by kernel_rfl)).val _ rfl
  have e103 := (hf 103 (by kernel_rfl)).val _ rfl
  have e104 := (hf 104 (by kernel_rfl)).val _ rfl
  have e105 := (hf 105 (by kernel_rfl)).val _ rfl
  simp only [putsν, Act.put, List.setIfInBounds_toArray, List.set_cons_zero, List.set_cons_succ, e0, e1, e2, e3, e4, e5, e6, e7, e8, e9, e10, e11, e12, e13, e14, e15, e16, e17, e18, e19, e20, e21, e22, e23, e24, e25, e26, e27, e28, e29, e30, e31, e32, e33, e34, e35, e36, e37, e39, e40, e41, e42, e43, e44, e45, e46, e47, e48, e49, e50, e51, e52, e53, e54, e55, e56, e57, e58, e59, e60, e61, e62, e63, e64, e65, e66, e67, e68, e69, e70, e71, e72, e73, e74, e75, e76, e77, e78, e79, e80, e81, e82, e83, e84, e85, e86, e87, e88, e89, e90, e91, e92, e93, e94, e95, e96, e97, e98, e99, e100, e101, e102, e103, e104, e105]
  clear hf e0 e1 e2 e3 e4 e5 e6 e7 e8 e9 e10 e11 e12 e13 e14 e15 e16 e17 e18 e19 e20 e21 e22 e23 e24 e25 e26 e27 e28 e29 e30 e31 e32 e33 e34 e35 e36 e37 e39 e40 e41 e42 e43 e44 e45 e46 e47 e48 e49 e50 e51 e52 e53 e54 e55 e56 e57 e58 e59 e60 e61 e62 e63 e64 e65 e66 e67 e68 e69 e70 e71 e72 e73 e74 e75 e76 e77 e78 e79 e80 e81 e82 e83 e84 e85 e86 e87 e88 e89 e90 e91 e92 e93 e94 e95 e96 e97 e98 e99 e100 e101 e102 e103 e104 e105
  clear i17
  refine wpAnyT_done (by kernel_rfl) ?_ _
  refine only_mk ?_
  have HFIN := Lib.hid (below_step HW17.out hS18)
  go_wp2_with fail
  go_ret
  exact ⟨rfl, HFIN.out⟩
end Go.Proofs.Ytaillfnmaiiapaa
