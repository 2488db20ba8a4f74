import Derived.Test.YtliobahnekohmaaGreatIxE
import Derived.Test.YtliobahnekohmaaGreatIxF
import Derived.BigQuiet
/-
  How many bytes two texts begin with alike: the walk.
-/
namespace Go.Proofs.YtliobahnekohmaaGreat
open Go.RowKit
theorem below_drewN {B : Nat} {a w : World} (h : Below B a w) (n : Nat) : Below B a (w.drewN n) := h.trans ⟨rfl, rfl, rfl, Nat.le_refl _, fun _ _ => rfl⟩
theorem sh_list : ∀ (la lb : List UInt8) (k : Nat), (∀ i, i < k → ∃ x, la[i]? = some x ∧ lb[i]? = some x) → (la[k]? = none ∨ lb[k]? = none ∨ la[k]? ≠ lb[k]?) → ((la.zip lb).takeWhile (fun p => decide (p.1 = p.2))).length = k
 | [], lb, k, h, _ => by
  rcases Nat.eq_zero_or_pos k with rfl | h0
  · simp
  · obtain ⟨x, h1, -⟩ := h 0 h0
    simp at h1
 | a :: la, [], k, h, _ => by
  rcases Nat.eq_zero_or_pos k with rfl | h0
  · simp
  · obtain ⟨x, -, h1⟩ := h 0 h0
    simp at h1
 | a :: la, b :: lb, 0, _, h => by
  have hne : a ≠ b := by simpa using h
  rw [List.zip_cons_cons, List.takeWhile_cons, if_neg (by simpa using hne)]
  rfl
 | a :: la, b :: lb, k + 1, h, h2 => by
  obtain ⟨x, h3, h4⟩ := h 0 (by omega)
  have hab : a = b := by
   have e1 : a = x := by simpa using h3
   have e2 : b = x := by simpa using h4
   rw [e1, e2]
  have ih := sh_list la lb k (fun i hi => by simpa using h (i + 1) (by omega)) (by simpa using h2)
  rw [List.zip_cons_cons, List.takeWhile_cons, if_pos (by simpa using hab), List.length_cons, ih]
set_option maxRecDepth 100000 in
set_option maxHeartbeats 4000000 in
theorem shared_any (a b : ByteArray) (ha : a.size ≤ 1000) (hb : b.size ≤ 1000) (w : World) :
 Calls Tryz.prog 67 #[.string a, .string b] w fun e w' => e = .returned (.int .i64 ((Ix.shared a b : Nat) : Int)) ∧ Below w.heap.size w w' := by
 have HEQ := Lib.hid (fun k h1 h2 => (Ix.shared_eq a b).trans (sh_list a.data.toList b.data.toList k h1 h2))
 generalize Ix.shared a b = R at *
 go_enter Tryz.func67, Tryz.ntmps67
 go_wp2_with fail
 go_loopw [5] (fun i wr => ∃ k : Nat, k ≤ a.size ∧ k ≤ b.size ∧ i = .int .i64 k ∧ (∀ i, i < k → ∃ x, a.data.toList[i]? = some x ∧ b.data.toList[i]? = some x) ∧ Below w.heap.size w wr) (fun i _ => a.size - (intOf i).toNat)
 case atStart => exact ⟨0, by omega, by omega, rfl, (fun i hi => absurd hi (Nat.not_lt_zero i)), Below.refl _ _⟩
 case round =>
  obtain ⟨k, hka, hkb, rfl, hall, hbl⟩ := hrel
  have HALL := Lib.hid hall; have HB := Lib.hid hbl
  clear hall hbl
  have i0 : (0 : Int) ≤ (k : Int) := by omega
  have la : a.data.toList.length = a.size := by simp
  have lb : b.data.toList.length = b.size := by simp
  by_cases h1 : k < a.size
  · have d1 : decide ((k : Int) < (a.size : Int)) = true := decide_eq_true (by omega)
    have d1n : decide (k < a.size) = true := decide_eq_true h1
    have i1 : (k : Int) < (a.size : Int) := by omega
    by_cases h2 : k < b.size
    · have d2 : decide ((k : Int) < (b.size : Int)) = true := decide_eq_true (by omega)
      have d2n : decide (k < b.size) = true := decide_eq_true h2
      have i2 : (k : Int) < (b.size : Int) := by omega
      have ea : a.data.toList[k]? = some a[k] := by rw [List.getElem?_eq_getElem (by omega)]; rfl
      have eb : b.data.toList[k]? = some b[k] := by rw [List.getElem?_eq_getElem (by omega)]; rfl
      by_cases he : a[k] = b[k]
      · have d3 : ((a[k].toNat : Int) == (b[k].toNat : Int)) = true := by rw [he]; simp
        have HN : Hid (∀ i, i < k + 1 → ∃ x, a.data.toList[i]? = some x ∧ b.data.toList[i]? = some x) := Lib.hid (fun i hi => by
         rcases Nat.lt_or_ge i k with h | h
         · exact HALL.out i h
         · obtain rfl : i = k := by omega
           exact ⟨a[i], ea, by rw [eb, he]⟩)
        clear he
        go_wp2_with fail
        go_quiet (fail)
        go_wp2_with fail
        go_roundw
        case rel => exact ⟨k + 1, by omega, by omega, by go_num, HN.out, below_drewN HB.out _⟩
        case measure => simp [intOf]; omega
      · have d3 : ((a[k].toNat : Int) == (b[k].toNat : Int)) = false := by
         rw [beq_eq_false_iff_ne]
         intro h
         exact he (UInt8.toNat_inj.1 (by omega))
        have hr := HEQ.out k HALL.out (Or.inr (Or.inr (by rw [ea, eb]; simpa using he)))
        clear he
        go_wp2_with fail
        go_quiet (fail)
        go_wp2_with fail
        go_ret
        exact ⟨by rw [hr]; rfl, below_drewN HB.out _⟩
    · have hr := HEQ.out k HALL.out (Or.inr (Or.inl (by rw [List.getElem?_eq_none]; omega)))
      have d2 : decide ((k : Int) < (b.size : Int)) = false := decide_eq_false (by omega)
      have d2n : decide (k < b.size) = false := decide_eq_false h2
      go_wp2_with fail
      go_quiet (fail)
      go_wp2_with fail
      go_ret
      exact ⟨by rw [hr]; rfl, below_drewN HB.out _⟩
  · have hr := HEQ.out k HALL.out (Or.inl (by rw [List.getElem?_eq_none]; omega))
    have d1 : decide ((k : Int) < (a.size : Int)) = false := decide_eq_false (by omega)
    have d1n : decide (k < a.size) = false := decide_eq_false h1
    go_wp2_with fail
    go_quiet (fail)
    go_wp2_with fail
    go_ret
    exact ⟨by rw [hr]; rfl, below_drewN HB.out _⟩
end Go.Proofs.YtliobahnekohmaaGreat
/-
  Labels by the places of symbols: the walk.
-/
namespace Go.Proofs.YtliobahnekohmaaGreat
open Go.RowKit
theorem wlaw : Go.Maps.Keyed Tryz.prog 9 := Go.Maps.string_keyed Tryz.underlying9
theorem wkey {s : ByteArray} (h : s.size ≤ maxLen) : keyOf Tryz.prog 9 (.string s) = some (.string s.data.toList) := Go.WideMaps.keyOf_string_mk Tryz.underlying9 h
def placeF (S : List ByteArray) (m : Nat) : Value → Option Value
 | .string s => if Ix.place S s < m then some (.int .i64 ((Ix.place S s : Nat) : Int)) else none
 | _ => none
theorem placeF_str (S : List ByteArray) (m : Nat) (s : ByteArray) : placeF S m (.string s) = if Ix.place S s < m then some (.int .i64 ((Ix.place S s : Nat) : Int)) else none := rfl
def Places (w : World) (mb : Nat) (S : List ByteArray) (m : Nat) : Prop := MapIs Tryz.prog 9 w mb m (placeF S m)
theorem Places.later {w V : World} {mb m : Nat} {S : List ByteArray} (h : Places w mb S m) (hb : Below w.heap.size w V) : Places V mb S m := MapIs.same h (hb.block mb (MapIs.lt h))
theorem Places.wrote {base : Nat} {w V : World} {mb m : Nat} {S : List ByteArray} (h : Places w mb S m) (hw : Wrote base w V) : Places V mb S m := by
 obtain ⟨es, clock, hb, hr⟩ := h
 exact ⟨es, clock, hw.kept mb _ hb (fun cs T fr e => by cases e), hr⟩
theorem Places.look {w : World} {mb : Nat} {S : List ByteArray} (h : Places w mb S S.length) {s : ByteArray} (hs : s ∈ S) (hz : s.size ≤ maxLen) : (Instr.lookup 66 (.map (some mb)) (.string s) false).run Tryz.prog w = .ok (.int .i64 ((Ix.place S s : Nat) : Int)) w := by
 have := MapIs.look_some (t := 66) (e := 3) h false wlaw Tryz.underlying66 (wkey hz) (v := .int .i64 ((Ix.place S s : Nat) : Int)) (by rw [placeF_str, if_pos (Ix.place_lt hs).1])
 simpa using this
theorem u64_row (w : World) (ns : List Nat) (cs : Array Value) (hc : ∀ i, i < ns.length → cs[i]? = some (.int .u64 ((ns.getD i 0 : Nat) : Int))) : Row 1 (nx ns) (w.alloc (.cells cs 103)) (some ⟨w.heap.size, 0, none⟩) ns.length := fun _ => ⟨⟨w.heap.size, 0, none⟩, rfl, by simp, fun i hi j hj => by
 obtain rfl : j = 0 := by omega
 rw [Addr.add_lit, Nat.zero_add, Nat.mul_one, Nat.add_zero, cell_of_row _ _ _ _ _ _ (heap_alloc_new w _)]
 exact hc i hi⟩
theorem u64_at (W : World) (bb : Nat) (ns : List Nat) (cs : Array Value) (h : W.heap[bb]? = some (.cells cs 103 (0, 0))) (hc : ∀ i, i < ns.length → cs[i]? = some (.int .u64 ((ns.getD i 0 : Nat) : Int))) : Row 1 (nx ns) W (some ⟨bb, 0, none⟩) ns.length := fun _ => ⟨⟨bb, 0, none⟩, rfl, (Array.getElem?_eq_some_iff.1 h).1, fun i hi j hj => by
 obtain rfl : j = 0 := by omega
 rw [Addr.add_lit, Nat.zero_add, Nat.mul_one, Nat.add_zero, cell_of_row _ _ _ _ _ _ h]
 exact hc i hi⟩
theorem one_cells (a : Nat) : ∀ i, i < [a].length → (#[Value.int .u64 (a : Int)] : Array Value)[i]? = some (.int .u64 (([a].getD i 0 : Nat) : Int)) := fun i hi => by
 obtain rfl : i = 0 := by simpa using hi
 rfl
theorem two_u64 (a b : Nat) : ∀ i, i < [a, b].length → (#[Value.int .u64 (a : Int), .int .u64 (b : Int)] : Array Value)[i]? = some (.int .u64 (([a, b].getD i 0 : Nat) : Int)) := fun i hi => by
 have hi : i < 2 := hi
 rcases (show i = 0 ∨ i = 1 by omega) with rfl | rfl <;> rfl
theorem three_u64 (a b c : Nat) : ∀ i, i < [a, b, c].length → (#[Value.int .u64 (a : Int), .int .u64 (b : Int), .int .u64 (c : Int)] : Array Value)[i]? = some (.int .u64 (([a, b, c].getD i 0 : Nat) : Int)) := fun i hi => by
 have hi : i < 3 := hi
 rcases (show i = 0 ∨ i = 1 ∨ i = 2 by omega) with rfl | rfl | rfl <;> rfl
theorem built_any (base b mb : Nat) (T : ByteArray) (ns : List Nat) (cs : Array Value) (bb n c : Nat) (w : World) (h : Wr w base b mb T) (hlen : T.size ≤ 1000000) (hnl : n = ns.length) (hn : ns.length ≤ 1000) (hns : ∀ n ∈ ns, n < 18446744073709551616) (hBw : base ≤ w.heap.size) (hc : w.heap[bb]? = some (.cells cs 103 (0, 0))) (hcs : ∀ i, i < ns.length → cs[i]? = some (.int .u64 ((ns.getD i 0 : Nat) : Int))) :
 Calls Tryz.prog 64 #[.pointer (some ⟨b, 0, none⟩), .slice (some ⟨bb, 0, none⟩) n c] w fun e w' => e = .returned (.tuple #[]) ∧ Wr w' base b mb (T ++ smalls ns) ∧ Wrote base w w' :=
 smalls_any base b mb T (some ⟨bb, 0, none⟩) c n ns w h hlen hnl hn hns hBw (u64_at w bb ns cs hc hcs) (fun ad e => by cases e; exact ⟨_, _, hc⟩)
theorem smalls_one (a : Nat) : smalls [a] = Num.smallB a := ByteArray.append_empty
theorem smalls_two (a b : Nat) : smalls [a, b] = Num.smallB a ++ Num.smallB b := by show Num.smallB a ++ (Num.smallB b ++ ByteArray.empty) = _; rw [ByteArray.append_empty]
theorem smalls_three (a b c : Nat) : smalls [a, b, c] = Num.smallB a ++ Num.smallB b ++ Num.smallB c := by show Num.smallB a ++ (Num.smallB b ++ (Num.smallB c ++ ByteArray.empty)) = _; rw [ByteArray.append_empty, ByteArray.append_assoc]
namespace Ix
theorem labsB_snoc (S : List ByteArray) (x : Lab) : ∀ l, labsB S (l ++ [x]) = labsB S l ++ (Num.smallB (place S x.1) ++ Num.smallB (place S x.2))
 | [] => by show Num.smallB (place S x.1) ++ (Num.smallB (place S x.2) ++ ByteArray.empty) = ByteArray.empty ++ _; rw [ByteArray.append_empty, ByteArray.empty_append]
 | y :: l => by show Num.smallB (place S y.1) ++ (Num.smallB (place S y.2) ++ labsB S (l ++ [x])) = (Num.smallB (place S y.1) ++ (Num.smallB (place S y.2) ++ labsB S l)) ++ _; rw [labsB_snoc S x l]; simp only [ByteArray.append_assoc]
theorem labsB_take (S : List ByteArray) (l : List Lab) {j : Nat} (hj : j < l.length) : labsB S (l.take (j + 1)) = labsB S (l.take j) ++ (Num.smallB (place S (La.at_ l j).1) ++ Num.smallB (place S (La.at_ l j).2)) := by
 have e : La.at_ l j = l[j] := by unfold La.at_; simp [List.getD, hj]
 rw [List.take_add_one, List.getElem?_eq_getElem hj, e]
 exact labsB_snoc S _ _
theorem labsB_size (S : List ByteArray) : ∀ l, (labsB S l).size ≤ 20 * l.length
 | [] => Nat.le_refl _
 | y :: l => by
  have := labsB_size S l
  have h1 := Fr.small_le (place S y.1)
  have h2 := Fr.small_le (place S y.2)
  show (Num.smallB (place S y.1) ++ (Num.smallB (place S y.2) ++ labsB S l)).size ≤ _
  rw [ByteArray.size_append, ByteArray.size_append, List.length_cons]; omega
end Ix
set_option maxRecDepth 100000 in
set_option maxHeartbeats 8000000 in
theorem labels_any (w0 : World) (x : EAt) (b mb : Nat) (S : List ByteArray) (T : ByteArray) (w : World) (hx : LabRow w0 x.A x.e.l.length (La.at_ x.e.l)) (hl : x.e.l.length ≤ 6) (hS : S.length ≤ 1000) (hmem : ∀ j, j < x.e.l.length → (La.at_ x.e.l j).1 ∈ S ∧ (La.at_ x.e.l j).2 ∈ S) (hsz : ∀ j, j < x.e.l.length → (La.at_ x.e.l j).1.size ≤ 48 ∧ (La.at_ x.e.l j).2.size ≤ 48) (hT : T.size ≤ 900000)
 (hw0 : Below w0.heap.size w0 w) (hw : Wr w w0.heap.size b mb T) (hm : Places w mb S S.length) :
 Calls Tryz.prog 66 #[.pointer (some ⟨b, 0, none⟩), .agg (entC x)] w fun e w' => e = .returned (.tuple #[]) ∧ Wr w' w0.heap.size b mb (T ++ (Num.smallB x.e.l.length ++ Ix.labsB S x.e.l)) ∧ Wrote w0.heap.size w w' := by
 obtain ⟨⟨l, la, of, le⟩, A, c⟩ := x
 unfold entC
 simp only at hx hl hmem hsz ⊢
 have HX := Lib.hid hx; have HME := Lib.hid hmem; have HSZ := Lib.hid hsz; have HW0 := Lib.hid hw0
 have hbs := hw0.size
 obtain ⟨w1, hw1⟩ : ∃ w1, w1 = w.alloc (.cells #[.slice A l.length c, .int .i64 la, .int .i64 of, .int .i64 le] 59) := ⟨_, rfl⟩
 have hb1 : Below w.heap.size w w1 := by rw [hw1]; exact (Below.refl _ _).alloc (Nat.le_refl _) _
 have hy1 : w1.heap[w.heap.size]? = some (.cells #[.slice A l.length c, .int .i64 la, .int .i64 of, .int .i64 le] 59 (0, 0)) := by rw [hw1]; exact heap_alloc_new w _
 have y0 := cell_of_row _ _ 0 _ _ _ hy1
 simp only [List.getElem?_toArray, List.getElem?_cons_zero] at y0
 obtain ⟨eb, heb⟩ : ∃ eb, eb = w.heap.size := ⟨_, rfl⟩
 have hb2 : Below w1.heap.size w1 (w1.alloc (.cells #[.int .u64 (l.length : Int)] 103)) := (Below.refl _ _).alloc (Nat.le_refl _) _
 have hb12 := below_step hb1 hb2
 have HSM := Lib.hid (built_any w0.heap.size b mb T [l.length] _ w1.heap.size 1 1 (w1.alloc (.cells #[.int .u64 (l.length : Int)] 103)) (hw.later hb12) (by omega) rfl (by simp) (fun n hn => by rw [List.mem_singleton.1 hn]; omega) (by have := hb12.size; omega) (heap_alloc_new w1 _) (one_cells l.length))
 rw [smalls_one] at HSM
 have HM := Lib.hid (hm.later hb12); have HY := Lib.hid (heap_keep hy1 hb2)
 have HWT := Lib.hid (Wrote.below (base := w0.heap.size) hb12 hbs)
 rw [← heb] at y0 HY
 have hu : IntKind.u64.wrap (l.length : Int) = (l.length : Int) := by simp [IntKind.wrap, IntKind.bits, IntKind.signed]; omega
 have HBS := Lib.hid hbs
 clear hx hmem hsz hw0 hb1 hy1 hb2 hb12 hw hm
 go_enter Tryz.func66, Tryz.ntmps66
 go_upto_region 1 with fail
 rw [← hw1, ← heb]
 clear hw1 heb
 go_wp2_with fail
 refine HSM.out.mono ?_; rintro e w3 ⟨rfl, hw3, hr3⟩
 have hy3 := hr3.block HY.out (by decide)
 have HW3 := Lib.hid hw3; have HR3 := Lib.hid (HWT.out.trans hr3); have HM3 := Lib.hid (HM.out.wrote hr3); have HY3 := Lib.hid hy3
 clear y0
 have y0 := cell_of_row _ _ 0 _ _ _ hy3
 simp only [List.getElem?_toArray, List.getElem?_cons_zero] at y0
 clear hw3 hr3 hy3 HSM HWT HM HY
 have hn6 := Fr.small_le l.length
 generalize hT1 : T ++ Num.smallB l.length = T1 at *
 have hT1z : T1.size ≤ 900010 := by rw [← hT1, ByteArray.size_append]; omega
 have HT1 := Lib.hid hT1
 clear hT1
 go_wp2_with fail
 clear y0
 go_loopw [16] (fun i wr => ∃ j : Nat, j ≤ l.length ∧ i = .int .i64 j ∧ Wr wr w0.heap.size b mb (T1 ++ Ix.labsB S (l.take j)) ∧ Wrote w0.heap.size w wr ∧ Places wr mb S S.length) (fun i _ => l.length - (intOf i).toNat)
 case atStart => exact ⟨0, by omega, rfl, by show Wr _ _ _ _ (T1 ++ ByteArray.empty); rw [ByteArray.append_empty]; exact HW3.out, HR3.out, HM3.out⟩
 case round =>
  obtain ⟨j, hj, rfl, hwr, hwt, hmr⟩ := hrel
  have HWR := Lib.hid hwr; have HWT := Lib.hid hwt; have HMR := Lib.hid hmr
  clear hwr hwt hmr
  have j0 : (0 : Int) ≤ (j : Int) := by omega
  by_cases hjl : j < l.length
  · have j1 : (j : Int) < (l.length : Int) := by omega
    have dd2 : decide ((j : Int) < (l.length : Int)) = true := decide_eq_true j1
    obtain ⟨lb, rfl, z0, z1⟩ := HX.out.at_ (HW0.out.trans HWT.out.bel) hjl
    obtain ⟨hs1, hs2⟩ := HSZ.out j hjl
    obtain ⟨hm1, hm2⟩ := HME.out j hjl
    have hp1 := (Ix.place_lt hm1).1; have hp2 := (Ix.place_lt hm2).1
    have HTK := Lib.hid (Ix.labsB_take S l hjl)
    have hbz := Ix.labsB_size S (l.take j)
    rw [List.length_take] at hbz
    have HL1 := Lib.hid (fun U (hU : Below wr.heap.size wr U) => (HMR.out.later hU).look hm1 (by unfold maxLen; omega)); have HL2 := Lib.hid (fun U (hU : Below wr.heap.size wr U) => (HMR.out.later hU).look hm2 (by unfold maxLen; omega))
    generalize Ix.place S (La.at_ l j).1 = p1 at *
    generalize Ix.place S (La.at_ l j).2 = p2 at *
    generalize (La.at_ l j).1 = s1 at *
    generalize (La.at_ l j).2 = s2 at *
    obtain ⟨w8, hw8⟩ : ∃ w8, w8 = wr.alloc (.cells #[.string s1, .string s2] 37) := ⟨_, rfl⟩
    have hb8 : Below wr.heap.size wr w8 := by rw [hw8]; exact (Below.refl _ _).alloc (Nat.le_refl _) _
    have hy8 : w8.heap[wr.heap.size]? = some (.cells #[.string s1, .string s2] 37 (0, 0)) := by rw [hw8]; exact heap_alloc_new wr _
    obtain ⟨xb, hxb⟩ : ∃ xb, xb = wr.heap.size := ⟨_, rfl⟩
    rw [← hxb] at hy8
    have HY8 := Lib.hid hy8; have HB8 := Lib.hid hb8
    have hu1 : IntKind.u64.wrap (p1 : Int) = (p1 : Int) := by simp [IntKind.wrap, IntKind.bits, IntKind.signed]; omega
    have hu2 : IntKind.u64.wrap (p2 : Int) = (p2 : Int) := by simp [IntKind.wrap, IntKind.bits, IntKind.signed]; omega
    have HC := Lib.hid (fun U (hU : Below w8.heap.size w8 U) => WrAt.map (HWR.out.later (below_step hb8 hU)))
    have hwsz := HWT.out.size; have hbsz := HBS.out
    clear hy8 hb8 hs1 hs2 hm1 hm2
    go_upto_region 5 with fail
    rw [← hw8, ← hxb]
    clear hw8 hxb z0 z1
    refine plain_robJ [(0, some 20), (1, some 21), (2, some 22), (3, some 23), (4, some 24), (5, some 25), (6, some 26), (7, some 27), (8, some 28), (9, some 29), (10, some 30), (11, some 31), (12, some 32), (13, some 33), (14, some 34), (15, some 35), (16, some 36), (17, some 37)] [18] (fun U V => Below U.heap.size U V) (fun U => Below w8.heap.size w8 U) [(0, .pointer (some ⟨b, 0, none⟩)), (1, .pointer (some ⟨b, 0, none⟩)), (2, .pointer (some ⟨b, 0, none⟩)), (3, .pointer (some ⟨b, 2, none⟩)), (4, .map (some mb)), (5, .pointer (some ⟨xb, 0, none⟩)), (6, .string s1), (7, .int .i64 (p1 : Int)), (8, .int .u64 (p1 : Int)), (9, .pointer (some ⟨b, 0, none⟩)), (10, .pointer (some ⟨b, 0, none⟩)), (11, .pointer (some ⟨b, 2, none⟩)), (12, .map (some mb)), (13, .pointer (some ⟨xb, 1, none⟩)), (14, .string s2), (15, .int .i64 (p2 : Int)), (16, .int .u64 (p2 : Int))] [(17, (fun v W => ∃ bb, v = .slice (some ⟨bb, 0, none⟩) 2 2 ∧ W.heap[bb]? = some (.cells #[.int .u64 (p1 : Int), .int .u64 (p2 : Int)] 103 (0, 0)) : Value → World → Prop))] 1 (by kernel_rfl) (by kernel_rfl) (by kernel_rfl) ((Below.refl _ _).drew) (fun U V h hb => below_step h hb) ?_ ?_ ?_
    · intro p hp
      simp only [List.mem_cons, List.not_mem_nil, or_false] at hp
      subst hp
      exact fun v U V h hb => by obtain ⟨bb, e, hc⟩ := h; exact ⟨bb, e, heap_keep hc hb⟩
    · refine ⟨⟨_, rfl, fun ν U hU hp => ?_⟩, ?_⟩
      · simp only [putsν, Act.put, List.setIfInBounds_toArray, List.set_cons_zero, List.set_cons_succ]
        exact Yld.value (.pointer (some ⟨b, 0, none⟩)) U (by kernel_rfl) (by go_simp) ⟨Below.refl _ _, Fx.fixed rfl rfl⟩
      refine ⟨⟨_, rfl, fun ν U hU hp => ?_⟩, ?_⟩
      · simp only [putsν, Act.put, List.setIfInBounds_toArray, List.set_cons_zero, List.set_cons_succ]
        exact Yld.value (.pointer (some ⟨b, 0, none⟩)) U (by kernel_rfl) (by go_simp) ⟨Below.refl _ _, Fx.fixed rfl rfl⟩
      refine ⟨⟨_, rfl, fun ν U hU hp => ?_⟩, ?_⟩
      · simp only [putsν, Act.put, List.setIfInBounds_toArray, List.set_cons_zero, List.set_cons_succ]
        have e1 := (hp 1 (by kernel_rfl) (by kernel_rfl)).val _ rfl
        simp only [e1]
        exact Yld.value (.pointer (some ⟨b, 0, none⟩)) U (by kernel_rfl) (by go_simp) ⟨Below.refl _ _, Fx.fixed rfl rfl⟩
      refine ⟨⟨_, rfl, fun ν U hU hp => ?_⟩, ?_⟩
      · simp only [putsν, Act.put, List.setIfInBounds_toArray, List.set_cons_zero, List.set_cons_succ]
        have e2 := (hp 2 (by kernel_rfl) (by kernel_rfl)).val _ rfl
        simp only [e2]
        exact Yld.value (.pointer (some ⟨b, 2, none⟩)) U (by kernel_rfl) (by go_simp) ⟨Below.refl _ _, Fx.fixed rfl rfl⟩
      refine ⟨⟨_, rfl, fun ν U hU hp => ?_⟩, ?_⟩
      · simp only [putsν, Act.put, List.setIfInBounds_toArray, List.set_cons_zero, List.set_cons_succ]
        have e3 := (hp 3 (by kernel_rfl) (by kernel_rfl)).val _ rfl
        simp only [e3]
        exact Yld.value (.map (some mb)) U (by kernel_rfl) (by have h0 : U.cell? ⟨b, 2, none⟩ = some (.map (some mb)) := HC.out U hU; go_simp) ⟨Below.refl _ _, Fx.fixed rfl rfl⟩
      refine ⟨⟨_, rfl, fun ν U hU hp => ?_⟩, ?_⟩
      · simp only [putsν, Act.put, List.setIfInBounds_toArray, List.set_cons_zero, List.set_cons_succ]
        exact Yld.value (.pointer (some ⟨xb, 0, none⟩)) U (by kernel_rfl) (by go_simp) ⟨Below.refl _ _, Fx.fixed rfl rfl⟩
      refine ⟨⟨_, rfl, fun ν U hU hp => ?_⟩, ?_⟩
      · simp only [putsν, Act.put, List.setIfInBounds_toArray, List.set_cons_zero, List.set_cons_succ]
        have e5 := (hp 5 (by kernel_rfl) (by kernel_rfl)).val _ rfl
        simp only [e5]
        exact Yld.value (.string s1) U (by kernel_rfl) (by have h0 : U.cell? ⟨xb, 0, none⟩ = some (.string s1) := cell_of_row _ _ _ _ _ _ (heap_keep HY8.out hU); go_simp) ⟨Below.refl _ _, Fx.fixed rfl rfl⟩
      refine ⟨⟨_, rfl, fun ν U hU hp => ?_⟩, ?_⟩
      · simp only [putsν, Act.put, List.setIfInBounds_toArray, List.set_cons_zero, List.set_cons_succ]
        have e4 := (hp 4 (by kernel_rfl) (by kernel_rfl)).val _ rfl
        have e6 := (hp 6 (by kernel_rfl) (by kernel_rfl)).val _ rfl
        simp only [e4, e6]
        exact Yld.value (.int .i64 (p1 : Int)) U (by kernel_rfl) (by have h0 := HL1.out U (below_step HB8.out hU); go_simp) ⟨Below.refl _ _, Fx.fixed rfl rfl⟩
      refine ⟨⟨_, rfl, fun ν U hU hp => ?_⟩, ?_⟩
      · simp only [putsν, Act.put, List.setIfInBounds_toArray, List.set_cons_zero, List.set_cons_succ]
        have e7 := (hp 7 (by kernel_rfl) (by kernel_rfl)).val _ rfl
        simp only [e7]
        exact Yld.value (.int .u64 (p1 : Int)) U (by kernel_rfl) (by go_simp) ⟨Below.refl _ _, Fx.fixed rfl rfl⟩
      refine ⟨⟨_, rfl, fun ν U hU hp => ?_⟩, ?_⟩
      · simp only [putsν, Act.put, List.setIfInBounds_toArray, List.set_cons_zero, List.set_cons_succ]
        exact Yld.value (.pointer (some ⟨b, 0, none⟩)) U (by kernel_rfl) (by go_simp) ⟨Below.refl _ _, Fx.fixed rfl rfl⟩
      refine ⟨⟨_, rfl, fun ν U hU hp => ?_⟩, ?_⟩
      · simp only [putsν, Act.put, List.setIfInBounds_toArray, List.set_cons_zero, List.set_cons_succ]
        have e9 := (hp 9 (by kernel_rfl) (by kernel_rfl)).val _ rfl
        simp only [e9]
        exact Yld.value (.pointer (some ⟨b, 0, none⟩)) U (by kernel_rfl) (by go_simp) ⟨Below.refl _ _, Fx.fixed rfl rfl⟩
      refine ⟨⟨_, rfl, fun ν U hU hp => ?_⟩, ?_⟩
      · simp only [putsν, Act.put, List.setIfInBounds_toArray, List.set_cons_zero, List.set_cons_succ]
        have e10 := (hp 10 (by kernel_rfl) (by kernel_rfl)).val _ rfl
        simp only [e10]
        exact Yld.value (.pointer (some ⟨b, 2, none⟩)) U (by kernel_rfl) (by go_simp) ⟨Below.refl _ _, Fx.fixed rfl rfl⟩
      refine ⟨⟨_, rfl, fun ν U hU hp => ?_⟩, ?_⟩
      · simp only [putsν, Act.put, List.setIfInBounds_toArray, List.set_cons_zero, List.set_cons_succ]
        have e11 := (hp 11 (by kernel_rfl) (by kernel_rfl)).val _ rfl
        simp only [e11]
        exact Yld.value (.map (some mb)) U (by kernel_rfl) (by have h0 : U.cell? ⟨b, 2, none⟩ = some (.map (some mb)) := HC.out U hU; go_simp) ⟨Below.refl _ _, Fx.fixed rfl rfl⟩
      refine ⟨⟨_, rfl, fun ν U hU hp => ?_⟩, ?_⟩
      · simp only [putsν, Act.put, List.setIfInBounds_toArray, List.set_cons_zero, List.set_cons_succ]
        exact Yld.value (.pointer (some ⟨xb, 1, none⟩)) U (by kernel_rfl) (by go_simp) ⟨Below.refl _ _, Fx.fixed rfl rfl⟩
      refine ⟨⟨_, rfl, fun ν U hU hp => ?_⟩, ?_⟩
      · simp only [putsν, Act.put, List.setIfInBounds_toArray, List.set_cons_zero, List.set_cons_succ]
        have e13 := (hp 13 (by kernel_rfl) (by kernel_rfl)).val _ rfl
        simp only [e13]
        exact Yld.value (.string s2) U (by kernel_rfl) (by have h0 : U.cell? ⟨xb, 1, none⟩ = some (.string s2) := cell_of_row _ _ _ _ _ _ (heap_keep HY8.out hU); go_simp) ⟨Below.refl _ _, Fx.fixed rfl rfl⟩
      refine ⟨⟨_, rfl, fun ν U hU hp => ?_⟩, ?_⟩
      · simp only [putsν, Act.put, List.setIfInBounds_toArray, List.set_cons_zero, List.set_cons_succ]
        have e12 := (hp 12 (by kernel_rfl) (by kernel_rfl)).val _ rfl
        have e14 := (hp 14 (by kernel_rfl) (by kernel_rfl)).val _ rfl
        simp only [e12, e14]
        exact Yld.value (.int .i64 (p2 : Int)) U (by kernel_rfl) (by have h0 := HL2.out U (below_step HB8.out hU); go_simp) ⟨Below.refl _ _, Fx.fixed rfl rfl⟩
      refine ⟨⟨_, rfl, fun ν U hU hp => ?_⟩, ?_⟩
      · simp only [putsν, Act.put, List.setIfInBounds_toArray, List.set_cons_zero, List.set_cons_succ]
        have e15 := (hp 15 (by kernel_rfl) (by kernel_rfl)).val _ rfl
        simp only [e15]
        exact Yld.value (.int .u64 (p2 : Int)) U (by kernel_rfl) (by go_simp) ⟨Below.refl _ _, Fx.fixed rfl rfl⟩
      refine ⟨⟨_, rfl, fun ν U hU hp => ?_⟩, ?_⟩
      · simp only [putsν, Act.put, List.setIfInBounds_toArray, List.set_cons_zero, List.set_cons_succ]
        have e8 := (hp 8 (by kernel_rfl) (by kernel_rfl)).val _ rfl
        have e16 := (hp 16 (by kernel_rfl) (by kernel_rfl)).val _ rfl
        simp only [e8, e16]
        exact Yld.value (.slice (some ⟨U.heap.size, 0, none⟩) 2 2) _ (by kernel_rfl) (by go_simp) ⟨(Below.refl _ _).alloc (Nat.le_refl _) _, Fx.some_ rfl rfl ⟨_, rfl, heap_alloc_new U _⟩⟩
      trivial
    intro ν w9 hS9 hf
    have e0 := (hf 0 (by kernel_rfl)).val _ rfl
    have e1 := (hf 1 (by kernel_rfl)).val _ rfl
    have e2 := (hf 2 (by kernel_rfl)).val _ rfl
    have e3 := (hf 3 (by kernel_rfl)).val _ rfl
    have e4 := (hf 4 (by kernel_rfl)).val _ rfl
    have e5 := (hf 5 (by kernel_rfl)).val _ rfl
    have e6 := (hf 6 (by kernel_rfl)).val _ rfl
    have e7 := (hf 7 (by kernel_rfl)).val _ rfl
    have e8 := (hf 8 (by kernel_rfl)).val _ rfl
    have e9 := (hf 9 (by kernel_rfl)).val _ rfl
    have e10 := (hf 10 (by kernel_rfl)).val _ rfl
    have e11 := (hf 11 (by kernel_rfl)).val _ rfl
    have e12 := (hf 12 (by kernel_rfl)).val _ rfl
    have e13 := (hf 13 (by kernel_rfl)).val _ rfl
    have e14 := (hf 14 (by kernel_rfl)).val _ rfl
    have e15 := (hf 15 (by kernel_rfl)).val _ rfl
    have e16 := (hf 16 (by kernel_rfl)).val _ rfl
    have c17 := (hf 17 (by kernel_rfl)).is _ rfl
    simp only [putsν, Act.put, List.setIfInBounds_toArray, List.set_cons_zero, List.set_cons_succ, e0, e1, e2, e3, e4, e5, e6, e7, e8, e9, e10, e11, e12, e13, e14, e15, e16]
    clear hf e0 e1 e2 e3 e4 e5 e6 e7 e8 e9 e10 e11 e12 e13 e14 e15 e16
    obtain ⟨bb, hv, hbb⟩ := c17
    simp only [hv]
    clear hv
    refine wpAnyT_one (i := 18) (by kernel_rfl) rfl (by kernel_rfl) ?_
    intro K0 hK
    unfold Oper.wp
    go_simp
    have hsm := built_any w0.heap.size b mb (T1 ++ Ix.labsB S (l.take j)) [p1, p2] _ bb 2 2 w9 (HWR.out.later (below_step HB8.out hS9)) (by rw [ByteArray.size_append]; omega) rfl (by simp) (fun n hn => by rcases List.mem_cons.1 hn with e | e; (· omega); rw [List.mem_singleton.1 e]; omega) (by have := HB8.out.size; have := hS9.size; omega) hbb (two_u64 p1 p2)
    rw [smalls_two] at hsm
    refine hsm.mono ?_; rintro e w10 ⟨rfl, hw10, hr10⟩
    have HW10 := Lib.hid hw10; have hr0 := (Wrote.below (base := w0.heap.size) (below_step HB8.out hS9) (by omega)).trans hr10
    have HR10 := Lib.hid (HWT.out.trans hr0); have HM10 := Lib.hid (HMR.out.wrote hr0)
    clear hw10 hr10 hr0 hS9 hsm hbb
    refine hK _ _ (fun _ => trivial) ?_
    clear hK K0
    refine wpAnyT_done (by kernel_rfl) ?_ _
    refine only_mk ?_
    go_wp2_with fail
    go_roundw
    case rel => exact ⟨j + 1, by omega, by go_num, by rw [HTK.out]; have h10 := HW10.out; simp only [ByteArray.append_assoc] at h10 ⊢; exact h10, HR10.out, HM10.out⟩
    case measure => simp [intOf]; omega
  · obtain rfl : j = l.length := by omega
    have dd2 : decide ((l.length : Int) < (l.length : Int)) = false := decide_eq_false (by omega)
    have h1 := HWR.out
    rw [List.take_length, ← HT1.out, ByteArray.append_assoc] at h1
    have H1 := Lib.hid h1
    clear h1
    go_wp2_with fail
    go_end0
    exact ⟨rfl, H1.out, HWT.out⟩
end Go.Proofs.YtliobahnekohmaaGreat
